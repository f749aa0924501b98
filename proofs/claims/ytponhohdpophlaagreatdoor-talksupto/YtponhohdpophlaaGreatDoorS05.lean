import Derived.Test.YtponhohdpophlaaGreatDoorS03
import Derived.Test.YtponhohdpophlaaGreatDoorS02
namespace Go.Proofs.YtponhohdpophlaaGreatDoor
set_option maxHeartbeats 8000000
set_option maxRecDepth 1000000
open Go renaming heap_alloc_new->Q0,heap_setCell_same->Ro,maxLen->Y7,Calls->Y8,TypeId->Za,Ending->Zb
open Go.Ending renaming returned->YX
open Go.IntKind renaming i64->J
open Go.Lib renaming cell_of_heap->Q3,frozen_of_heap->RJ
open Go.Obj renaming cells->YU
open Go.Proofs.Tryz renaming func146->SL,ntmps146->SM,ntmps148->TU,func147->WT,func148->WU,func322->Wm,ntmps322->Wn,ntmps147->Wt,ntmps90->Yp,ntmps94->Yq,prog->Ys
open Go.RowKit renaming Hid->H,Below->Y6,intOf->Y9
open Go.RowKit.Below renaming refl->QQ
open Go.Value renaming int->I,slice->L,string->T,pointer->YV,bool->YW,tuple->YY,agg->YZ
open _root_.Array renaming getElem?_eq_none->TG
open _root_.Bool renaming false->F,eq_iff_iff->Ri,and_false->SG,true_and->Sy,and_assoc->Tr,false_and->Tt,and_eq_false_iff->Uh,not_or->Uj,true->YT
open _root_.Int renaming eq_ofNat_of_zero_le->Sr,toNat_natCast->St,natCast_pow->TX
open _root_.List renaming getD_eq_getElem?_getD->Q5,mem_range->Q8,getElem_mem->QU,take_succ_eq_append_getElem->QV,take_length->QZ,map_cons->RE,length_append->RI,length_cons->RQ,all_eq_true->Rb,getElem?_eq_getElem->Re,mem_cons->Rf,mem_map->Rl,take_append_drop->Rp,length_drop->Rq,mem_singleton->Ry,take_of_length_le->SQ,drop_drop->SX,drop_zero->SY,map_append->Sh,append_nil->Sj,length_take->Sm,append_assoc->Sq,getElem?_map->TV,mem_iff_getElem->Tn,flatMap_append->U9,all_append->Ug,range_succ->Ui
open _root_.Nat renaming le_refl->QR,zero_le->QS,add_zero->QT,le_trans->Rn,pow_le_pow_right->S8,lt_or_ge->Tp,add_assoc->Ud,one_le_two_pow->Ue
open _root_.Option renaming none->N,some->S
open _root_.Option.some renaming injEq->U4,inj->Uc
open Go.Proofs.Tryz
open Go.RowKit
theorem kF(m:QL)(c:UInt8)(w:QI):Y8 Ys 214 #[T m,I .u8 (c.toNat:Int)] w λe a=>e=YX (I J (Lib.indexByte m.data.toList c))/\a=w:=by
 have:=Tryz.strings_IndexByte m (c.toNat:Int) w
 rwa [St,show c.toNat.toUInt8=c from UInt8.ofNat_toNat] at this
def ry(m:QF)(c:UInt8):Bool:=CF c || !decide (Lib.indexByte m c < 0)
theorem rk(s m:QL)(w:QI)(n:s.size<=Y7):Y8 Ys 213 #[T s,T m] w λe a=>e=YX (YW (wS s.data.toList m.data.toList))/\a=w:=by
 unfold maxLen at n;go_enter func213,ntmps213;go_wp2
 go_loop [8] (λi=>∃k:Nat,k<=s.size/\i=I J k/\H (∀j:Nat,j < k->ry m.data.toList (s.data.toList.getD j 0)=YT)) (λi=>s.size - (Y9 i).toNat)
 case atStart=>exact ⟨0,QS _,rfl,λj l=>by omega⟩
 case round=>
  obtain ⟨k,o,rfl,d⟩:=hrel
  by_cases c:k < s.size
  .have g:H (s.data.toList.getD k 0=s[k]):=iZ s k c
   cases f:(qv ↑s[k].toNat || dX ↑s[k].toNat)
   case true=>
    have b:H (ry m.data.toList s[k]=YT):=by
     show _=_;simp only [ry,CF,f,Bool.true_or]
    go_wp2_with (go_at_call 264;refine (jg _ _).mono ?_;rintro e a ⟨rfl,rfl⟩)
    exact ⟨⟨k+1,by omega,by go_num,ma d.out g.out b.out⟩,by simp [Y9];omega⟩
   cases h:decide (Lib.indexByte m.data.toList s[k] < 0)
   case true=>
    have b:H (ry m.data.toList s[k]=F):=by
     show _=_;simp only [ry,CF,f,h];rfl
    go_wp2_with (first | (go_at_call 264;refine (jg _ _).mono ?_;rintro e a ⟨rfl,rfl⟩) | (go_at_call 214;refine (kF _ _ _).mono ?_;rintro e a ⟨rfl,rfl⟩))
    go_ret;exact ⟨b8 (qg (p:=ry m.data.toList) (by rw [ag];exact c) (by rw [g.out,b.out])).symm,rfl⟩
   have b:H (ry m.data.toList s[k]=YT):=by
    show _=_;simp only [ry,CF,f,h];rfl
   go_wp2_with (first | (go_at_call 264;refine (jg _ _).mono ?_;rintro e a ⟨rfl,rfl⟩) | (go_at_call 214;refine (kF _ _ _).mono ?_;rintro e a ⟨rfl,rfl⟩))
   exact ⟨⟨k+1,by omega,by go_num,ma d.out g.out b.out⟩,by simp [Y9];omega⟩
  go_wp2
  go_ret;exact ⟨b8 (vz (p:=ry m.data.toList) (λj l=>d.out j (by rw [ag] at l;omega))).symm,rfl⟩
theorem tE(s:QL)(w:QI)(k:s.size<=Y7):Y8 Ys 146 #[T s] w λe a=>e=YX (YW (qp s.data.toList))/\a=w:=by
 have g:=k;unfold maxLen at k;have d:H (∀b,qp s.data.toList=b->YX (YW b)=YX (YW (qp s.data.toList))):=λb h=>by rw [h]
 by_cases c:1<=s.size/\s.size<=20
 .have m:decide ((s.size:Int) < 1)=F:=by simp;omega
  have n:decide (20 < (s.size:Int))=F:=by simp;omega
  have f:H (qp s.data.toList=(!Lib.hasPrefix s.data.toList [45] && !Lib.hasSuffix s.data.toList [45] && wS s.data.toList [45])):=by
   show _=_;simp only [qp,ag,decide_eq_true c.1,decide_eq_true c.2,Sy]
  clear c
  cases i:Lib.hasPrefix s.data.toList [45]
  case true=>
   go_enter func146,ntmps146;go_wp2_with (go_at_call 211;refine (Tryz.strings_HasPrefix _ _ _).mono ?_;rintro e a ⟨rfl,rfl⟩)
   go_ret;exact ⟨d.out _ (by rw [f.out,i];rfl),rfl⟩
  cases j:Lib.hasSuffix s.data.toList [45]
  case true=>
   go_enter func146,ntmps146;go_wp2_with (first | (go_at_call 211;refine (Tryz.strings_HasPrefix _ _ _).mono ?_;rintro e a ⟨rfl,rfl⟩) | (go_at_call 212;refine (Tryz.strings_HasSuffix _ _ _ g).mono ?_;rintro e a ⟨rfl,rfl⟩))
   go_ret;exact ⟨d.out _ (by rw [f.out,i,j];rfl),rfl⟩
  go_enter func146,ntmps146;go_wp2_with (first | (go_at_call 211;refine (Tryz.strings_HasPrefix _ _ _).mono ?_;rintro e a ⟨rfl,rfl⟩) | (go_at_call 212;refine (Tryz.strings_HasSuffix _ _ _ g).mono ?_;rintro e a ⟨rfl,rfl⟩) | (go_at_call 213;refine (rk _ _ _ g).mono ?_;rintro e a ⟨rfl,rfl⟩))
  go_ret;exact ⟨d.out _ (by rw [f.out,i,j];rfl),rfl⟩
 have l:H (qp s.data.toList=F):=by
  rw [JA];exact Fb (by rw [ag];exact c)
 have o:(decide ((s.size:Int) < 1) || decide (20 < (s.size:Int)))=YT:=by simp;omega
 clear c;go_enter func146,ntmps146;go_wp2_with fail
 all_goals (go_ret;exact ⟨d.out _ l.out,rfl⟩)
theorem oI(s:QL)(m:Int)(w:QI)(o:s.size<=Y7)(n:w.cell? ⟨0,0,N⟩=S (I J m)):Y8 Ys 322 #[T s] w λe a=>e=YX (YW (oc s.data.toList))/\a=w:=by
 have i:=o;unfold maxLen at o;have c:H (∀b,oc s.data.toList=b->YX (YW b)=YX (YW (oc s.data.toList))):=λb h=>by rw [h]
 by_cases f:1<=s.size/\s.size<=20
 .have q:decide ((s.size:Int) < 1)=F:=by simp;omega
  have r:decide (20 < (s.size:Int))=F:=by simp;omega
  have d:s.size < 4294967281:=by omega
  have g:H (oc s.data.toList=(!Lib.hasPrefix s.data.toList [46] && !Lib.hasSuffix s.data.toList [46] && !Lib.contains s.data.toList [46,46] && wS s.data.toList [45,95,43,46])):=by
   show _=_;simp only [oc,ag,decide_eq_true f.1,decide_eq_true f.2,Sy]
  clear f
  cases j:Lib.hasPrefix s.data.toList [46]
  case true=>
   go_enter func322,ntmps322;go_wp2_with (go_at_call 211;refine (Tryz.strings_HasPrefix _ _ _).mono ?_;rintro e a ⟨rfl,rfl⟩)
   go_ret;exact ⟨c.out _ (by rw [g.out,j];rfl),rfl⟩
  cases k:Lib.hasSuffix s.data.toList [46]
  case true=>
   go_enter func322,ntmps322;go_wp2_with (first | (go_at_call 211;refine (Tryz.strings_HasPrefix _ _ _).mono ?_;rintro e a ⟨rfl,rfl⟩) | (go_at_call 212;refine (Tryz.strings_HasSuffix _ _ _ i).mono ?_;rintro e a ⟨rfl,rfl⟩))
   go_ret;exact ⟨c.out _ (by rw [g.out,j,k];rfl),rfl⟩
  cases l:Lib.contains s.data.toList [46,46]
  case true=>
   go_enter func322,ntmps322;go_wp2_with (first | (go_at_call 211;refine (Tryz.strings_HasPrefix _ _ _).mono ?_;rintro e a ⟨rfl,rfl⟩) | (go_at_call 212;refine (Tryz.strings_HasSuffix _ _ _ i).mono ?_;rintro e a ⟨rfl,rfl⟩) | (go_at_call 342;refine (Tryz.strings_Contains _ _ m _ d n).mono ?_;rintro e a ⟨rfl,rfl⟩))
   go_ret;exact ⟨c.out _ (by rw [g.out,j,k,l];rfl),rfl⟩
  go_enter func322,ntmps322;go_wp2_with (first | (go_at_call 211;refine (Tryz.strings_HasPrefix _ _ _).mono ?_;rintro e a ⟨rfl,rfl⟩) | (go_at_call 212;refine (Tryz.strings_HasSuffix _ _ _ i).mono ?_;rintro e a ⟨rfl,rfl⟩) | (go_at_call 342;refine (Tryz.strings_Contains _ _ m _ d n).mono ?_;rintro e a ⟨rfl,rfl⟩) | (go_at_call 213;refine (rk _ _ _ i).mono ?_;rintro e a ⟨rfl,rfl⟩))
  go_ret;exact ⟨c.out _ (by rw [g.out,j,k,l];rfl),rfl⟩
 have p:H (oc s.data.toList=F):=by
  show _=_
  cases e:oc s.data.toList
  case false=>rfl
  simp only [oc,Bool.and_eq_true,decide_eq_true_eq,ag] at e;exact absurd ⟨e.1.1.1.1.1,e.1.1.1.1.2⟩ f
 have t:(decide ((s.size:Int) < 1) || decide (20 < (s.size:Int)))=YT:=by simp;omega
 clear f;go_enter func322,ntmps322;go_wp2_with fail
 all_goals (go_ret;exact ⟨c.out _ p.out,rfl⟩)
def JO(l:QF)(w:QI)(e:Zb)(w':QI):Prop:=
 ∃ps:List QL,e=YX (L (S ⟨w.heap.size,0,N⟩) ps.length ps.length)/\ps.map (·.data.toList)=bV 46 l/\ps.length<=41/\(∀p∈ps,p.size<=40)/\Y6 w.heap.size w w'/\
  ∀k (hk:k < ps.length),w'.cell? ⟨w.heap.size,k,N⟩=S (T ps[k])
theorem zx(c:UInt8):∀l:QF,(bV c l).length<=l.length+1/\∀p∈bV c l,p.length<=l.length
 | []=>by simp [bV]
 | b::r=>by
  have d:=zx c r
  by_cases f:b=c
  .simp only [bV,f,if_true];refine ⟨by simp;omega,?_⟩
   intro p a
   rcases Rf.1 a with e | a
   .subst e;simp
   have:=d.2 p a;simp;omega
  simp only [bV,f,if_false]
  cases g:bV c r with
  | nil=>simp
  | cons q qs=>
   rw [g] at d;refine ⟨by simp at d ⊢;omega,?_⟩
   intro p a
   rcases Rf.1 a with e | a
   .subst e;have:=d.2 q List.mem_cons_self;simp;omega
   have:=d.2 p (List.mem_cons_of_mem _ a);simp;omega
theorem Lz(s:QL)(m:Int)(w:QI)(j:s.size<=40)(h:w.cell? ⟨0,0,N⟩=S (I J m)):Y8 Ys 145 #[T s,T ⟨#[46]⟩] w (JO s.data.toList w):=by
 refine (Tryz.strings_Split s ⟨#[46]⟩ m w (by omega) h (by decide)).mono ?_;rintro e l ⟨rfl,rfl⟩;have a:=Lib.splitB_all ⟨#[46]⟩ (by decide) 0 _ s rfl;have f:=Lib.splitB_data ⟨#[46]⟩ 0 (Lib.countB s ⟨#[46]⟩) s;have b:(Lib.splitB ⟨#[46]⟩ 0 (Lib.countB s ⟨#[46]⟩) s).map (·.data.toList)=bV 46 s.data.toList:=f.trans (NT s.data.toList);have c:=zx 46 s.data.toList
 generalize Lib.splitB ⟨#[46]⟩ 0 (Lib.countB s ⟨#[46]⟩) s=ps at *
 refine ⟨ps,by rw [a],b,?_,?_,(QQ _ _).alloc (QR _) _,?_⟩
 .have:=congrArg List.length b;rw [List.length_map] at this;have d:=c.1;rw [ag] at d;omega
 .intro p i;have:=c.2 p.data.toList (by rw [<-b];exact List.mem_map_of_mem i);rw [ag,ag] at this;omega
 intro k g;have:(w.alloc (YU (ps.map T).toArray 9)).cell? ⟨w.heap.size,k,N⟩=(ps.map T).toArray[k]? :=World.cell?_alloc_mark _ _ _ _ _;rw [this];simp [Re g]
def mD(l:QF)(w:QI)(e:Zb)(w':QI):Prop:=e=YX (YW (fI l))/\Y6 w.heap.size w w'
theorem mD.mk{l:QF}{w:QI}{e:Zb}{a:QI}(b:Bool)(d:e=YX (YW b))(c:fI l=b)(f:Y6 w.heap.size w a):mD l w e a:=⟨by rw [d,c],f⟩
theorem i7(s:QL)(m:Int)(w:QI)(M:s.size<=Y7)(u:w.cell? ⟨0,0,N⟩=S (I J m)):Y8 Ys 86 #[T s] w (mD s.data.toList w):=by
 unfold maxLen at M
 by_cases z:40 < s.size
 .go_enter func86,ntmps86;go_wp2_with fail
  go_ret;exact mD.mk F rfl (by simp [fI];intro h;omega) (QQ _ _)
 have r:decide (40 < (s.size:Int))=F:=by simp;omega
 have b:s.size<=40:=by omega
 go_enter func86,ntmps86;go_wp2_with fail
 refine (Lz s m _ b u).mono ?_;rintro e P ⟨a,rfl,v,G,g,q,t⟩
 have HQ:H (fI s.data.toList=(a.map (·.data.toList)).all qp):=by
  show _=_;rw [v,fI,ag,decide_eq_true b,Sy]
 have y:=K g;have x:=K t;clear v g t u;go_wp2_with fail
 go_loop [11] (λi=>∃k:Nat,k<=a.length/\i=I J k/\H (∀j (d:j < a.length),j < k->qp a[j].data.toList=YT)) (λi=>a.length - (Y9 i).toNat)
 case atStart=>exact ⟨0,QS _,rfl,λj d C=>by omega⟩
 case round=>
  obtain ⟨k,C,rfl,n⟩:=hrel
  by_cases c:k < a.length
  .have A:P.cell? ⟨w.heap.size,k,N⟩=S (T a[k]):=x.out k c;have f:a[k].size<=Y7:=by have:=y.out a[k] (QU c);unfold maxLen;omega
   cases o:qp a[k].data.toList
   case true=>
    go_wp2_with (go_at_call 146;refine (tE _ _ f).mono ?_;rintro e O ⟨rfl,rfl⟩)
    exact ⟨⟨k+1,by omega,by go_num,λj d B=>by
     by_cases e:j < k
     .exact n.out j d e
     have:j=k:=by omega
     subst this;exact o⟩,by simp [Y9];omega⟩
   go_wp2_with (go_at_call 146;refine (tE _ _ f).mono ?_;rintro e O ⟨rfl,rfl⟩)
   go_ret;refine mD.mk F rfl ?_ q;rw [HQ.out]
   cases e:(a.map (·.data.toList)).all qp
   case false=>rfl
   rw [Rb] at e;have:=e a[k].data.toList (List.mem_map_of_mem (QU c));rw [o] at this;cases this
  go_wp2
  go_ret;refine mD.mk YT rfl ?_ q;rw [HQ.out,Rb];intro l D;obtain ⟨p,E,rfl⟩:=Rl.1 D;obtain ⟨j,d,rfl⟩:=Tn.1 E;exact n.out j d (by omega)
theorem DP(s:QL)(c:UInt8)(w:QI)(l:s.size<=Y7):Y8 Ys 234 #[T s,T ⟨#[c]⟩] w (kA c s.data.toList w):=by
 unfold maxLen at l;have a:=Mi c s.data.toList
 by_cases h:0<=Lib.indexByte s.data.toList c
 .rw [if_pos h] at a;obtain ⟨i,b⟩:=Sr h;have j:=(Lib.indexByte_some b).1
  have k:i < s.size:=by
   have:=(List.getElem?_eq_some_iff.1 j).1;rw [ag] at this;exact this
  have f:=K b;rw [b,St] at a;have d:=K a;clear a b h j;have n:(0:Int)<=↑i:=by omega
  have o:(↑i:Int)<=↑s.size:=by omega
  have p:(0:Int)<=↑i+1:=by omega
  have q:(↑i+1:Int)<=↑s.size:=by omega
  go_enter func234,ntmps234;go_wp2_with (go_at_call 276;refine (Tryz.stringslite_Index_one _ _ _).mono ?_;rintro e m ⟨rfl,rfl⟩;rw [f.out])
  go_region
  go_wp2
  go_ret3
  refine kA.mk _ _ _ rfl ?_ 1 rfl;rw [d.out,Lib.extract_data,Lib.extract_to_end];rfl
 have g:=Lib.indexByte_ge s.data.toList c;have b:Lib.indexByte s.data.toList c= -1:=by omega
 rw [if_neg h] at a;have f:=K b;have d:=K a;clear a b h g;go_enter func234,ntmps234;go_wp2_with (go_at_call 276;refine (Tryz.stringslite_Index_one _ _ _).mono ?_;rintro e m ⟨rfl,rfl⟩;rw [f.out])
 go_ret3
 exact kA.mk _ _ _ rfl d.out 0 rfl
theorem j5(s:QL)(c:UInt8)(w:QI)(d:s.size<=Y7):Y8 Ys 174 #[T s,T ⟨#[c]⟩] w (kA c s.data.toList w):=by
 go_enter func174,ntmps174;go_wp2_with fail
 refine (DP s c _ d).mono ?_;rintro e g ⟨x,y,f,rfl,a,n,rfl⟩;have b:=K a;clear a;go_wp2_with fail
 go_ret3
 exact kA.mk _ _ _ rfl b.out n rfl
theorem iX(s:QL)(w:QI)(a:s.size<=140737488355328):Y8 Ys 48 #[T s] w λe b=>e=YX (T s)/\Y6 w.heap.size w b:=by
 go_enter func48,ntmps48;go_wp2_with fail
 refine (Tryz.stringslite_Clone s _ (by omega)).mono ?_;rintro e b ⟨rfl,c⟩;go_wp2_with fail
 go_ret;exact ⟨rfl,c⟩
theorem td(s:QL)(w:QI)(f:s.size<=40)(a:∀(j:Nat) (b:UInt8),s.data.toList[j]? =S b->b.toNat < 128):Y8 Ys 323 #[T s] w λe h=>e=YX (T ⟨(Lib.toLowerA s.data.toList).toArray⟩)/\Y6 w.heap.size w h:=by
 have g:=K a;clear a;go_enter func323,ntmps323;go_wp2_with fail
 refine (Tryz.strings_ToLower_ascii s _ (by omega) g.out).mono ?_;rintro e i ⟨rfl,d⟩;go_wp2_with fail
 refine (iX _ _ ?_).mono ?_
 .show (Lib.toLowerA s.data.toList).toArray.size<=_;simp [Lib.toLowerA];omega
 rintro e k ⟨rfl,c⟩;go_wp2_with fail
 go_ret;exact ⟨rfl,d.trans (c.mono d.size)⟩
def dn(l:QF):QF×QF×Bool:=
 if oc (aJ 64 l).1 && fI (aJ 64 l).2.1 then ((aJ 64 l).1,Lib.toLowerA (aJ 64 l).2.1,YT) else ([],[],F)
def fk(l:QF)(w:QI)(e:Zb)(w':QI):Prop:=
 ∃(x y:QL) (f:Bool),e=YX (YY #[T x,T y,YW f])/\dn l=(x.data.toList,y.data.toList,f)/\Y6 w.heap.size w w'
theorem fk.mk{l:QF}{w:QI}{e:Zb}{a:QI}(x y:QL)(f:Bool)(c:e=YX (YY #[T x,T y,YW f]))(b:dn l=(x.data.toList,y.data.toList,f))(d:Y6 w.heap.size w a):fk l w e a:=
 ⟨x,y,f,c,b,d⟩
theorem an(n:Nat)(w:QI)(B:Nat):Y6 B w (w.drewN n):=by
 induction n with
 | zero=>exact QQ _ _
 | succ n ih=>exact ih.trans ((QQ _ _).drew)
theorem FI(s:QL)(m:Int)(w:QI)(B:s.size<=140737488355328)(z:w.cell? ⟨0,0,N⟩=S (I J m)):Y8 Ys 285 #[T s] w (fk s.data.toList w):=by
 have v:s.size<=Y7:=by unfold maxLen;omega
 go_enter func285,ntmps285;go_wp2_with fail
 refine (j5 s 64 _ v).mono ?_;rintro e q ⟨x,y,f,rfl,p,n,rfl⟩;have r:=nj 64 _ _ _ _ p;rw [ag,ag,ag] at r;have A:x.size<=140737488355328:=by omega
 have C:y.size<=140737488355328:=by omega
 have b:x.size<=Y7:=by unfold maxLen;omega
 have i:y.size<=Y7:=by unfold maxLen;omega
 have j:H (dn s.data.toList=if oc x.data.toList && fI y.data.toList then (x.data.toList,Lib.toLowerA y.data.toList,YT) else ([],[],F)):=by
  show _=_;rw [dn,p]
 clear r p;have a:(w.drewN n).cell? ⟨0,0,N⟩=S (I J m):=by simpa using z
 cases k:oc x.data.toList
 case false=>
  go_wp2_with (go_at_call 322;refine (oI _ m _ b a).mono ?_;rintro e q ⟨rfl,rfl⟩)
  go_ret3
  exact fk.mk _ _ _ rfl (by rw [j.out,k];rfl) (an _ _ _)
 cases c:fI y.data.toList
 case false=>
  go_wp2_with (first | (go_at_call 322;refine (oI _ m _ b a).mono ?_;rintro e q ⟨rfl,rfl⟩) | fail)
  refine (i7 y m _ i a).mono ?_;rintro e t ⟨rfl,l⟩;rw [c];go_wp2_with fail
  go_ret3
  exact fk.mk _ _ _ rfl (by rw [j.out,k,c];rfl) ((an _ _ _).trans (by simpa using l))
 have h:y.size<=40:=by have:=Ml _ c;rwa [ag] at this
 have u:=K (sJ _ c);go_wp2_with (first | (go_at_call 322;refine (oI _ m _ b a).mono ?_;rintro e q ⟨rfl,rfl⟩) | fail)
 refine (i7 y m _ i a).mono ?_;rintro e t ⟨rfl,l⟩;rw [c];go_wp2_with fail
 refine (iX x _ A).mono ?_;rintro e D ⟨rfl,g⟩;go_wp2_with fail
 refine (td y _ h u.out).mono ?_;rintro e E ⟨rfl,o⟩;go_wp2_with fail
 go_ret3
 have d:Y6 w.heap.size w t:=(an _ _ _).trans (by simpa using l);exact fk.mk _ _ _ rfl (by rw [j.out,k,c];rfl) (d.trans ((g.trans (o.mono g.size)).mono d.size))
def bg(w:QI)(v:QJ)(n sz:Nat)(cs:List QJ):Prop:=
 cs.length=n * sz/\((n=0/\∃a cap,v=L a 0 cap)\/∃b off cap,v=L (S ⟨b,off,N⟩) n cap/\n<=cap/\∀j:Nat,j < n * sz->w.cell? ⟨b,off+j,N⟩=cs[j]?)
theorem au{w:QI}{b o:Nat}{v:QJ}(h:w.cell? ⟨b,o,N⟩=S v):b < w.heap.size:=by
 rcases Tp b w.heap.size with a | a
 .exact a
 simp [World.cell?,TG a] at h
theorem bg.below{w k:QI}{v:QJ}{n i:Nat}{c:List QJ}(h:bg w v n i c)(l:Y6 w.heap.size w k):bg k v n i c:=by
 obtain ⟨g,h | ⟨b,a,cap,q,e,m⟩⟩:=h
 .exact ⟨g,.inl h⟩
 refine ⟨g,.inr ⟨b,a,cap,q,e,λj o=>?_⟩⟩;have d:=m j o;have f:j < c.length:=by omega
 rw [Re f] at d ⊢;rw [<-d];exact l.cell (p:=⟨b,a+j,N⟩) (au d)
theorem bg.shape{w:QI}{v:QJ}{n d:Nat}{e:List QJ}(h:bg w v n d e):∃a cap,v=L a n cap/\∀(k i:Nat),k < n->i < d->∃b c,a=S ⟨b,c,N⟩/\b < w.heap.size/\w.cell? ⟨b,c+(k * d+i),N⟩=e[k * d+i]? :=by
 obtain ⟨o,⟨rfl,a,cap,rfl⟩ | ⟨b,c,cap,rfl,_,g⟩⟩:=h
 .exact ⟨a,cap,rfl,λk i l=>by omega⟩
 refine ⟨_,cap,rfl,λk i l m=>?_⟩
 have j:k * d+i < n * d:=by
  have:(k+1) * d<=n * d:=Nat.mul_le_mul_right _ l;rw [Nat.add_mul] at this;omega
 refine ⟨b,c,rfl,?_,g _ j⟩;have f:=g _ j;rw [Re (by omega)] at f;exact au f
theorem bg.cap{w:QI}{a:QK}{n m cap i:Nat}{cs:List QJ}(h:bg w (L a n cap) m i cs):m<=cap:=by
 obtain ⟨_,⟨rfl,_⟩ | ⟨b,g,c,f,d,_⟩⟩:=h
 .exact QS _
 injection f with _ _ e;omega
theorem bg.one{w:QI}{v:QJ}{n:Nat}{e:List QJ}(h:bg w v n 1 e):∃a c,v=L a n c/\∀k:Nat,k < n->∃b d,a=S ⟨b,d,N⟩/\b < w.heap.size/\w.cell? ⟨b,d+k,N⟩=e[k]? :=by
 obtain ⟨a,c,i,f⟩:=h.shape;refine ⟨a,c,i,λk g=>?_⟩;have:=f k 0 g (by decide);simpa using this
def aZ(n a b:Int):Bool:=decide (a<=n) && decide (n<=b)
theorem nJ{a b:Bool}(h:b=a):YX (YW a)=YX (YW b):=by rw [h]
theorem ca(n a b:Int)(w:QI):Y8 Ys 90 #[I J n,I J a,I J b] w λe g=>e=YX (YW (aZ n a b))/\w=g:=by
 by_cases d:a<=n
 .by_cases f:n<=b
  .go_enter func90,Yp;go_wp2
   go_ret;exact ⟨nJ (by simp [aZ,d,f]),rfl⟩
  have c:decide (n<=b)=F:=by simpa using f
  go_enter func90,Yp;go_wp2
  all_goals (go_ret;exact ⟨nJ (by rw [aZ,c,SG]),rfl⟩)
 have c:decide (a<=n)=F:=by simpa using d
 go_enter func90,Yp;go_wp2
 all_goals (go_ret;exact ⟨nJ (by rw [aZ,c];rfl),rfl⟩)
def iU(l:QF):Bool:=aZ l.length 1 20 && decide (Lib.indexByte l 0 < 0)
theorem wI(s:QL)(w:QI)(f:s.size<=Y7):Y8 Ys 148 #[T s] w λe a=>e=YX (YW (iU s.data.toList))/\w=a:=by
 have c:=f;unfold maxLen at c
 have HT:H (iU s.data.toList=(aZ s.size 1 20 && decide (Lib.indexByte s.data.toList 0 < 0))):=by
  show _=_;rw [iU,ag]
 cases b:aZ (s.size:Int) 1 20
 case false=>
  go_enter WU,ntmps148;go_wp2_with (go_at_call 90;refine (ca _ _ _ _).mono ?_;rintro e a ⟨rfl,rfl⟩)
  go_ret;exact ⟨nJ (by rw [HT.out,b];rfl),rfl⟩
 cases d:decide (Lib.indexByte s.data.toList 0 < 0)
 case false=>
  go_enter WU,ntmps148;go_wp2_with (first | (go_at_call 90;refine (ca _ _ _ _).mono ?_;rintro e a ⟨rfl,rfl⟩) | (go_at_call 214;refine (kF s 0 _).mono ?_;rintro e a ⟨rfl,rfl⟩))
  go_ret;exact ⟨nJ (by rw [HT.out,b,d];rfl),rfl⟩
 go_enter WU,ntmps148;go_wp2_with (first | (go_at_call 90;refine (ca _ _ _ _).mono ?_;rintro e a ⟨rfl,rfl⟩) | (go_at_call 214;refine (kF s 0 _).mono ?_;rintro e a ⟨rfl,rfl⟩))
 go_ret;exact ⟨nJ (by rw [HT.out,b,d];rfl),rfl⟩
def jz(l:List Int):Bool:=aZ l.length 1 5 && l.all λx=>aZ x 1 1000000000
def dG(l:List Int):List QJ:=l.map (I J)
theorem gZ(v:QJ)(l:List Int)(w:QI)(h:bg w v l.length 1 (dG l))(B:l.length<=140737488351232):Y8 Ys 91 #[v] w λe g=>e=YX (YW (jz l))/\w=g:=by
 obtain ⟨a,y,rfl,s⟩:=h.one;have p:=K s;clear s h
 cases m:aZ (l.length:Int) 1 5
 case false=>
  go_enter func91,ntmps91;go_wp2_with (go_at_call 90;refine (ca _ _ _ _).mono ?_;rintro e g ⟨rfl,rfl⟩)
  go_ret;exact ⟨nJ (by rw [jz,m];rfl),rfl⟩
 go_enter func91,ntmps91;go_wp2_with (go_at_call 90;refine (ca _ _ _ _).mono ?_;rintro e g ⟨rfl,rfl⟩)
 go_loop [11] (λi=>∃k:Nat,k<=l.length/\i=I J k/\H (∀j:Nat,j < k->aZ (l.getD j 0) 1 1000000000=YT)) (λi=>l.length - (Y9 i).toNat)
 case atStart=>exact ⟨0,QS _,rfl,λj n=>by omega⟩
 case round=>
  obtain ⟨k,A,rfl,q⟩:=hrel
  by_cases c:k < l.length
  .obtain ⟨b,o,rfl,z,d⟩:=p.out k c;obtain ⟨x,f⟩:=QE (l.getD k 0)
   have t:w.cell? ⟨b,o+k,N⟩=S (I J x):=by
    rw [d,dG,TV,Re c, <-f,Q5,Re c];rfl
   have r:=K f;clear d f p
   cases u:aZ x 1 1000000000
   case true=>
    go_wp2_with (go_at_call 90;refine (ca _ _ _ _).mono ?_;rintro e g ⟨rfl,rfl⟩)
    refine ⟨⟨k+1,by omega,by go_num,λj n=>?_⟩,by simp [Y9];omega⟩
    by_cases e:j < k
    .exact q.out j e
    rw [show j=k by omega,r.out,u]
   go_wp2_with (go_at_call 90;refine (ca _ _ _ _).mono ?_;rintro e g ⟨rfl,rfl⟩)
   go_ret;refine ⟨nJ ?_,rfl⟩;rw [jz,m,Sy]
   cases e:l.all (λx=>aZ x 1 1000000000)
   case false=>rfl
   rw [Rb] at e;have:=e x (by rw [<-r.out,Q5,Re c];exact QU c);rw [u] at this;cases this
  go_wp2
  go_ret;refine ⟨nJ ?_,rfl⟩;rw [jz,m,Sy,Rb];intro x f;obtain ⟨j,n,rfl⟩:=Tn.1 f;have:=q.out j (by omega)
  rwa [Q5,Re n] at this
def bA(l:List QL):List QJ:=l.map T
def mK(l:List QL):Bool:=decide (l.length<=5) && l.all λs=>fI s.data.toList
def dZ(b:Bool)(w:QI)(e:Zb)(w':QI):Prop:=e=YX (YW b)/\Y6 w.heap.size w w'
theorem dZ.mk{b:Bool}{w:QI}{e:Zb}{a:QI}(c:Bool)(f:e=YX (YW c))(d:b=c)(g:Y6 w.heap.size w a):dZ b w e a:=⟨by rw [f,d],g⟩
theorem sE{α:Type}{p:α->Bool}{l:List α}{k:Nat}(a:k < l.length)(h:p l[k]=F):l.all p=F:=by
 cases e:l.all p
 case false=>rfl
 rw [Rb] at e;have:=e l[k] (QU a);rw [h] at this;cases this
theorem Br{α:Type}{p:α->Bool}{l:List α}(h:∀(j:Nat) (a:j < l.length),p l[j]=YT):l.all p=YT:=by
 rw [Rb];intro x b;obtain ⟨j,a,rfl⟩:=Tn.1 b;exact h j a
theorem Jq{α:Type}{p:α->Bool}{l:List α}{k:Nat}(d:k < l.length)(c:∀(j:Nat) (a:j < l.length),j < k->p l[j]=YT)(h:p l[k]=YT):∀(j:Nat) (a:j < l.length),j < k+1->p l[j]=YT:=by
 intro j a b
 by_cases e:j < k
 .exact c j a e
 have:j=k:=by omega
 subst this;exact h
theorem sM(v:QJ)(l:List QL)(m:Int)(w:QI)(h:bg w v l.length 1 (bA l))(X:l.length<=140737488351232)(E:∀s∈l,s.size<=Y7)(D:w.cell? ⟨0,0,N⟩=S (I J m)):Y8 Ys 87 #[v] w (dZ (mK l) w):=by
 obtain ⟨a,M,rfl,B⟩:=h.one;have y:=K B;have G:=K E;have O:=au D;clear B h E
 by_cases V:5 < l.length
 .go_enter func87,ntmps87;go_wp2
  go_ret;exact dZ.mk F rfl (by simp [mK];intro h;omega) (QQ _ _)
 have P:decide (5 < (l.length:Int))=F:=by simp;omega
 have z:H (mK l=l.all λs=>fI s.data.toList):=by
  show _=_;rw [mK,decide_eq_true (by omega),Sy]
 go_enter func87,ntmps87;go_wp2
 go_loopw [10] (λi R=>∃k:Nat,k<=l.length/\i=I J k/\H (∀(j:Nat) (x:j < l.length),j < k->fI l[j].data.toList=YT)/\Y6 w.heap.size w R) (λi _=>l.length - (Y9 i).toNat)
 case atStart=>exact ⟨0,QS _,rfl,(λj x Q=>by omega),QQ _ _⟩
 case round=>
  obtain ⟨k,W,rfl,A,c⟩:=hrel;have g:=K c
  by_cases d:k < l.length
  .obtain ⟨b,r,rfl,u,n⟩:=y.out k d
   have C:wr.cell? ⟨b,r+k,N⟩=S (T l[k]):=by
    rw [c.cell (p:=⟨b,r+k,N⟩) u,n,bA,TV,Re d];rfl
   have o:wr.cell? ⟨0,0,N⟩=S (I J m):=(c.cell O).trans D;have q:=G.out l[k] (QU d);clear n y c
   cases t:fI l[k].data.toList
   case true=>
    go_wp2_with fail
    refine (i7 _ m _ q o).mono ?_;rintro e U ⟨rfl,f⟩;rw [t];go_wp2_with fail
    exact ⟨⟨k+1,by omega,by go_num,Jq (p:=λs:QL=>fI s.data.toList) d A.out t,g.out.trans (f.mono g.out.size)⟩,by simp [Y9];omega⟩
   go_wp2_with fail
   refine (i7 _ m _ q o).mono ?_;rintro e U ⟨rfl,f⟩;rw [t];go_wp2_with fail
   go_ret;exact dZ.mk F rfl (by rw [z.out];exact sE (p:=λs:QL=>fI s.data.toList) d t) (g.out.trans (f.mono g.out.size))
  clear c;go_wp2
  go_ret;exact dZ.mk YT rfl (by rw [z.out];exact Br (p:=λs:QL=>fI s.data.toList) (λj x=>A.out j x (by omega))) g.out
def jK(x:Int×Int):Bool:=aZ x.2 0 32 && aZ x.1 0 4294967295 && decide (x.1 % 2 ^ (32 - x.2).toNat=0)
def cZ(l:List (Int×Int)):List QJ:=l.flatMap λx=>[I J x.1,I J x.2]
def lN(l:List (Int×Int)):Bool:=decide (l.length<=5) && l.all jK
theorem Ma(A n:Nat)(f:A<=4294967295)(b:n<=32):bits .and .u64 (A:Int) ((2:Int) ^ n - 1)=(((A % 2 ^ n:Nat)):Int):=by
 have a:1<=2 ^ n:=Ue;have c:2 ^ n<=2 ^ 32:=S8 (by decide) b;have d:(2:Nat) ^ 32=4294967296:=by decide
 have e:((2:Int) ^ n - 1)=((2 ^ n - 1:Nat):Int):=by
  rw [Int.natCast_sub a,TX];rfl
 rw [e,u64_and_nat _ _ (by omega) (by omega),Nat.and_two_pow_sub_one_eq_mod]
theorem Nd(a l:Int)(b:0<=a)(g:a<=4294967295):decide (a % 2 ^ (32 - l).toNat=0)=(bits BinOp.and IntKind.u64 a (IntKind.u64.wrap (IntKind.u64.wrap (2 ^ (32 - l).toNat) - 1)) == 0)\/32 < (32 - l).toNat:=by
 obtain ⟨A,rfl⟩:=Sr b;obtain ⟨n,c⟩:=QE ((32 - l).toNat);rw [c]
 by_cases h:32 < n
 .exact Or.inr h
 left
 have i:1<=2 ^ n:=Ue;have j:2 ^ n<=2 ^ 32:=S8 (by decide) (by omega);have k:(2:Nat) ^ 32=4294967296:=by decide
 have e:((2:Int) ^ n)=((2 ^ n:Nat):Int):=by rw [TX];rfl
 have d:IntKind.u64.wrap (2 ^ n)=(2:Int) ^ n:=by rw [e,IntKind.wrap_u64];omega
 have f:IntKind.u64.wrap ((2:Int) ^ n - 1)=(2:Int) ^ n - 1:=by rw [e,IntKind.wrap_u64];omega
 rw [d,f,Ma A n (by omega) (by omega),e,Ri];simp only [decide_eq_true_eq,beq_iff_eq];omega
theorem qy(l:List (Int×Int))(k:Nat)(h:k < l.length):(cZ l)[k * 2]? =S (I J l[k].1):=by
 induction l generalizing k with
 | nil=>simp at h
 | cons x r ih=>
  cases k with
  | zero=>rfl
  | succ k=>
   have:=ih k (by simpa using h);rw [show (k+1) * 2=k * 2+1+1 by omega]
   simpa [cZ] using this
theorem nF(l:List (Int×Int))(k:Nat)(h:k < l.length):(cZ l)[k * 2+1]? =S (I J l[k].2):=by
 induction l generalizing k with
 | nil=>simp at h
 | cons x r ih=>
  cases k with
  | zero=>rfl
  | succ k=>
   have:=ih k (by simpa using h);rw [show (k+1) * 2+1=k * 2+1+1+1 by omega]
   simpa [cZ] using this
theorem rF(a l:Int)(w:QI):Y8 Ys 147 #[YZ #[I J a,I J l]] w (dZ (jK (a,l)) w):=by
 cases b:aZ l 0 32
 case false=>
  go_enter WT,ntmps147;go_wp2_with (go_at_call 90;refine (ca _ _ _ _).mono ?_;rintro e d ⟨rfl,rfl⟩)
  go_ret;exact dZ.mk F rfl (by simp [jK,b]) ((QQ _ _).alloc (QR _) _)
 cases c:aZ a 0 4294967295
 case false=>
  go_enter WT,ntmps147;go_wp2_with (go_at_call 90;refine (ca _ _ _ _).mono ?_;rintro e d ⟨rfl,rfl⟩)
  go_ret;exact dZ.mk F rfl (by simp [jK,c]) ((QQ _ _).alloc (QR _) _)
 have h:0<=l:=by simp [aZ] at b;omega
 have i:l<=32:=by simp [aZ] at b;omega
 have f:0<=a:=by simp [aZ] at c;omega
 have g:a<=4294967295:=by simp [aZ] at c;omega
 go_enter WT,ntmps147;go_wp2_with (go_at_call 90;refine (ca _ _ _ _).mono ?_;rintro e d ⟨rfl,rfl⟩)
 go_ret;refine dZ.mk _ rfl ?_ ((QQ _ _).alloc (QR _) _);rw [jK,b,c,Sy,Sy];exact (Nd a l f g).resolve_right (by omega)
theorem AK(v:QJ)(l:List (Int×Int))(w:QI)(h:bg w v l.length 2 (cZ l))(Z:l.length<=140737488351232):Y8 Ys 88 #[v] w (dZ (lN l) w):=by
 obtain ⟨a,P,rfl,O⟩:=h.shape;have z:=K O;clear O h
 by_cases X:5 < l.length
 .go_enter func88,ntmps88;go_wp2
  go_ret;exact dZ.mk F rfl (by simp [lN];intro h;omega) (QQ _ _)
 have Q:decide (5 < (l.length:Int))=F:=by simp;omega
 have D:H (lN l=l.all jK):=by
  show _=_;rw [lN,decide_eq_true (by omega),Sy]
 go_enter func88,ntmps88;go_wp2
 go_loopw [10] (λi W=>∃k:Nat,k<=l.length/\i=I J k/\H (∀(j:Nat) (A:j < l.length),j < k->jK l[j]=YT)/\Y6 w.heap.size w W) (λi _=>l.length - (Y9 i).toNat)
 case atStart=>exact ⟨0,QS _,rfl,(λj A V=>by omega),QQ _ _⟩
 case round=>
  obtain ⟨k,Y,rfl,E,c⟩:=hrel;have n:=K c
  by_cases f:k < l.length
  .obtain ⟨b,B,rfl,t,q⟩:=z.out k 0 f (by decide);obtain ⟨s,d,M,_,m⟩:=z.out k 1 f (by decide)
   obtain ⟨rfl,rfl⟩:s=b/\d=B:=by
    have:=(Uc M).symm;simp at this;exact this
   obtain ⟨x,y⟩:=QE (l[k])
   have R:wr.cell? ⟨s,d+k * 2,N⟩=S (I J x.1):=by
    rw [c.cell (p:=⟨s,d+k * 2,N⟩) t];rw [QT] at q;rw [q,qy l k f,y]
   have U:wr.cell? ⟨s,d+k * 2+1,N⟩=S (I J x.2):=by
    rw [c.cell (p:=⟨s,d+k * 2+1,N⟩) t];rw [<-Ud] at m;rw [m,nF l k f,y]
   have G:=K y;clear q m z c y M
   cases u:jK x
   case true=>
    have r:jK (x.1,x.2)=YT:=u;go_wp2_with fail
    refine (rF _ _ _).mono ?_;rintro e C ⟨rfl,g⟩;rw [r];have o:H (Y6 w.heap.size w C):=(n.out.alloc n.out.size _).trans (g.mono (by have:=n.out.size;simp;omega));clear g;go_wp2_with fail
    exact ⟨⟨k+1,by omega,by go_num,Jq (p:=jK) f E.out (by rw [G.out];exact u),o.out⟩,by simp [Y9];omega⟩
   have r:jK (x.1,x.2)=F:=u;go_wp2_with fail
   refine (rF _ _ _).mono ?_;rintro e C ⟨rfl,g⟩;rw [r];have o:H (Y6 w.heap.size w C):=(n.out.alloc n.out.size _).trans (g.mono (by have:=n.out.size;simp;omega));clear g;go_wp2_with fail
   go_ret;exact dZ.mk F rfl (by rw [D.out];exact sE (p:=jK) f (by rw [G.out];exact u)) o.out
  clear c;go_wp2
  go_ret;exact dZ.mk YT rfl (by rw [D.out];exact Br (p:=jK) (λj A=>E.out j A (by omega))) n.out
def bI(l:List (QL×QL)):List QJ:=l.flatMap λx=>[T x.1,T x.2]
theorem jt(l:List (QL×QL))(k:Nat)(h:k < l.length):(bI l)[k * 2]? =S (T l[k].1):=by
 induction l generalizing k with
 | nil=>simp at h
 | cons x r ih=>
  cases k with
  | zero=>rfl
  | succ k=>
   have:=ih k (by simpa using h);rw [show (k+1) * 2=k * 2+1+1 by omega]
   simpa [bI] using this
theorem j7(l:List (QL×QL))(k:Nat)(h:k < l.length):(bI l)[k * 2+1]? =S (T l[k].2):=by
 induction l generalizing k with
 | nil=>simp at h
 | cons x r ih=>
  cases k with
  | zero=>rfl
  | succ k=>
   have:=ih k (by simpa using h);rw [show (k+1) * 2+1=k * 2+1+1+1 by omega]
   simpa [bI] using this
def gJ(l:List (QL×QL))(s:QL):Bool:=l.any λx=>x.1.toList == s.toList
theorem tD(v:QJ)(l:List (QL×QL))(s:QL)(w:QI)(h:bg w v l.length 2 (bI l))(V:l.length<=140737488351232):Y8 Ys 149 #[v,T s] w (dZ (gJ l s) w):=by
 obtain ⟨a,O,rfl,G⟩:=h.shape;have z:=K G;clear G h;go_enter func149,ntmps149;go_wp2
 go_loopw [9] (λi R=>∃k:Nat,k<=l.length/\i=I J k/\H (∀(j:Nat) (u:j < l.length),j < k->(l[j].1.toList == s.toList)=F)/\Y6 w.heap.size w R) (λi _=>l.length - (Y9 i).toNat)
 case atStart=>exact ⟨0,QS _,rfl,(λj u A=>by omega),QQ _ _⟩
 case round=>
  obtain ⟨k,U,rfl,C,c⟩:=hrel;have y:=K c
  by_cases g:k < l.length
  .obtain ⟨b,B,rfl,t,m⟩:=z.out k 0 g (by decide);obtain ⟨r,d,E,_,f⟩:=z.out k 1 g (by decide)
   obtain ⟨rfl,rfl⟩:r=b/\d=B:=by
    have:=(Uc E).symm;simp at this;exact this
   obtain ⟨x,n⟩:=QE (l[k])
   have P:wr.cell? ⟨r,d+k * 2,N⟩=S (T x.1):=by
    rw [c.cell (p:=⟨r,d+k * 2,N⟩) t];rw [QT] at m;rw [m,jt l k g,n]
   have Q:wr.cell? ⟨r,d+k * 2+1,N⟩=S (T x.2):=by
    rw [c.cell (p:=⟨r,d+k * 2+1,N⟩) t];rw [<-Ud] at f;rw [f,j7 l k g,n]
   have D:=K n;clear m f z c n E;have q:∀o,H (Y6 w.heap.size w (wr.alloc o)):=λo=>y.out.alloc y.out.size o
   cases M:(x.1.toList == s.toList)
   case true=>
    go_wp2
    go_ret;refine dZ.mk YT rfl ?_ (q _).out;rw [gJ,List.any_eq_true];exact ⟨l[k],QU g,by rw [D.out];exact M⟩
   go_wp2
   exact ⟨⟨k+1,by omega,by go_num,(λj u A=>by
    by_cases e:j < k
    .exact C.out j u e
    have:j=k:=by omega
    subst this
    rw [D.out];exact M),(q _).out⟩,by simp [Y9];omega⟩
  clear c;go_wp2
  go_ret;refine dZ.mk F rfl ?_ y.out;rw [gJ,List.any_eq_false];intro x n;obtain ⟨j,u,rfl⟩:=Tn.1 n;rw [C.out j u (by omega)];simp
theorem kK(s:QL)(w:QI)(c:s.size<=Y7):Y8 Ys 148 #[T s] w λe d=>e=YX (YW (iU s.data.toList))/\d=w:=
 (wI s w c).mono λ_ _ ⟨a,b⟩=>⟨a,b.symm⟩
def iq(l:List (QL×QL))(k:Nat):Bool:=iU (l.getD k (ByteArray.empty,ByteArray.empty)).1.data.toList && iU (l.getD k (ByteArray.empty,ByteArray.empty)).2.data.toList && !gJ (l.take k) (l.getD k (ByteArray.empty,ByteArray.empty)).1
def jy(l:List (QL×QL)):Bool:=decide (l.length<=5) && (List.range l.length).all (iq l)
theorem Jd(l:List (QL×QL))(k:Nat)(h:k<=l.length):bI (l.take k)=(bI l).take (k * 2):=by
 induction l generalizing k with
 | nil=>simp [bI]
 | cons x r ih=>
  cases k with
  | zero=>simp [bI]
  | succ k=>
   have:=ih k (by simpa using h);rw [show (k+1) * 2=k * 2+1+1 by omega]
   simp [bI] at this ⊢;exact this
theorem qa(l:List (QL×QL)):(bI l).length=l.length * 2:=by
 induction l with
 | nil=>rfl
 | cons x r ih=>simp [bI] at ih ⊢;omega
theorem I0{w:QI}{b d:Nat}{l:List (QL×QL)}(h:∀j:Nat,j < l.length * 2->w.cell? ⟨b,d+j,N⟩=(bI l)[j]?)(k:Nat)(g:k<=l.length)(a:Nat)(e:k<=a):bg w (L (S ⟨b,d,N⟩) k a) (l.take k).length 2 (bI (l.take k)):=by
 have c:(l.take k).length=k:=by rw [Sm,Nat.min_eq_left g]
 refine ⟨qa _,.inr ⟨b,d,a,by rw [c],by rw [c];exact e,λj f=>?_⟩⟩
 rw [c] at f;rw [h j (by omega),Jd l k g,List.getElem?_take_of_lt f]
theorem Ah(v:QJ)(l:List (QL×QL))(w:QI)(h:bg w v l.length 2 (bI l))(hl:l.length<=140737488351232)(hz:∀x∈l,x.1.size<=Y7/\x.2.size<=Y7):Y8 Ys 89 #[v] w (dZ (jy l) w):=by
 have P:=K h;obtain ⟨a,B,rfl,hc⟩:=h.shape;have V:=K hc;have HZ:=K hz;clear hc h hz
 by_cases h5:5 < l.length
 .go_enter func89,ntmps89;go_wp2
  go_ret;exact dZ.mk F rfl (by simp [jy];intro h;omega) (QQ _ _)
 have a0:decide (5 < (l.length:Int))=F:=by simp;omega
 have HD:H (jy l=(List.range l.length).all (iq l)):=by
  show _=_;rw [jy,decide_eq_true (by omega),Sy]
 go_enter func89,ntmps89;go_wp2
 go_loopw [10] (λi D=>∃k:Nat,k<=l.length/\i=I J k/\H (∀(j:Nat),j < k->iq l j=YT)/\Y6 w.heap.size w D) (λi _=>l.length - (Y9 i).toNat)
 case atStart=>exact ⟨0,QS _,rfl,(λj a3=>by omega),QQ _ _⟩
 case round=>
  obtain ⟨k,hk,rfl,HN,d⟩:=hrel;have y:=K d
  by_cases f:k < l.length
  .obtain ⟨b,Y,rfl,G,C⟩:=V.out k 0 f (by decide);obtain ⟨E,c,e',_,q⟩:=V.out k 1 f (by decide)
   obtain ⟨rfl,rfl⟩:E=b/\c=Y:=by
    have:=(Uc e').symm;simp at this;exact this
   obtain ⟨x,M⟩:=QE (l[k])
   have a1:wr.cell? ⟨E,c+k * 2,N⟩=S (T x.1):=by
    rw [d.cell (p:=⟨E,c+k * 2,N⟩) G];rw [QT] at C;rw [C,jt l k f,M]
   have a2:wr.cell? ⟨E,c+k * 2+1,N⟩=S (T x.2):=by
    rw [d.cell (p:=⟨E,c+k * 2+1,N⟩) G];rw [<-Ud] at q;rw [q,j7 l k f,M]
   have O:=HZ.out l[k] (QU f);rw [M] at O;obtain ⟨U,z2⟩:=O
   have t:H (∀(D:QI),Y6 w.heap.size w D->bg D (L (S ⟨E,c,N⟩) k B) (l.take k).length 2 (bI (l.take k))):=by
    show ∀_,_;intro D W;refine I0 (λj Q=>?_) k hk B (by have:=P.out.cap;omega);obtain ⟨a5,⟨h0,_⟩ | ⟨b2,o2,c2,r,_,X⟩⟩:=P.out.below W
    .omega
    injection r with r;injection r with r;injection r with e1 e2;subst e1 e2;exact X j Q
   have s:H (iq l k=(iU x.1.data.toList && iU x.2.data.toList && !gJ (l.take k) x.1)):=by
    show _=_;have:l.getD k (ByteArray.empty,ByteArray.empty)=x:=by rw [Q5,Re f, <-M];rfl
    rw [iq,this]
   have m:H (iq l k=F->jy l=F):=by
    show _->_;intro hf;rw [HD.out]
    cases e:(List.range l.length).all (iq l)
    case false=>rfl
    rw [Rb] at e;have:=e k (Q8.2 f);rw [hf] at this;cases this
   have a4:(k:Int)<=(B:Int):=by have:=P.out.cap;omega
   have g:∀o,Y6 w.heap.size w (wr.alloc o).drew:=λo=>(y.out.alloc y.out.size o).drew;have u:∀o,w.heap.size<=(wr.alloc o).drew.heap.size:=λo=>(g o).size;clear C q V d M e' P HZ
   cases R:iU x.1.data.toList
   case false=>
    have A:=K (m.out (by rw [s.out,R];rfl));go_wp2_with fail
    go_quiet ((go_at_call 148;exact Calls.quiet_of_same (kK _ _ U)))
    go_wp2_with fail
    go_ret;exact dZ.mk F rfl A.out ((y.out.alloc y.out.size _).trans (an _ _ _))
   cases Z:iU x.2.data.toList
   case false=>
    have A:=K (m.out (by rw [s.out,R,Z];rfl));go_wp2_with fail
    go_quiet ((go_at_call 148;exact Calls.quiet_of_same (kK _ _ (by first | exact U | exact z2))))
    go_wp2_with fail
    go_ret;exact dZ.mk F rfl A.out ((y.out.alloc y.out.size _).trans (an _ _ _))
   cases t3:gJ (l.take k) x.1
   case true=>
    have A:=K (m.out (by rw [s.out,R,Z,t3];rfl));go_wp2_with fail
    go_region_with (first
     | (go_at_call 148;refine (kK _ _ ?_).mono ?_;(first | exact U | exact z2);rintro e D ⟨rfl,rfl⟩)
     | (go_at_call 149;refine (tD _ (l.take k) _ _ ?_ ?_).mono ?_;(exact t.out _ (g _));(rw [Sm];omega);rintro e w1 ⟨rfl,n⟩;have z:=K ((g _).trans (n.mono (u _)));clear n))
    all_goals
     go_wp2_with fail
     go_ret;exact dZ.mk F rfl A.out z.out
   have A:H (iq l k=YT):=by show _=_;rw [s.out,R,Z,t3];rfl
   go_wp2_with fail
   go_region_with (first
    | (go_at_call 148;refine (kK _ _ ?_).mono ?_;(first | exact U | exact z2);rintro e D ⟨rfl,rfl⟩)
    | (go_at_call 149;refine (tD _ (l.take k) _ _ ?_ ?_).mono ?_;(exact t.out _ (g _));(rw [Sm];omega);rintro e w1 ⟨rfl,n⟩;have z:=K ((g _).trans (n.mono (u _)));clear n))
   all_goals
    go_wp2_with fail
    refine ⟨⟨k+1,by omega,by go_num,λj Q=>?_,z.out⟩,by simp [Y9];omega⟩
    by_cases e:j < k
    .exact HN.out j e
    rw [show j=k by omega,A.out]
  clear d;go_wp2
  go_ret;refine dZ.mk YT rfl ?_ y.out;rw [HD.out,Rb];intro j Q;exact HN.out j (by have:=Q8.1 Q;omega)
structure bF where
 host:QL
 xf:List QL
 xe:List (Int×Int)
 x9:List (QL×QL)
 most:Int
 size:Int
 waits:List Int
 xm:Int
 room:Int
def dD(w:QI)(c:bF)(vD vN vU vW:QJ):Prop:=
 bg w vD c.xf.length 1 (bA c.xf)/\bg w vN c.xe.length 2 (cZ c.xe)/\bg w vU c.x9.length 2 (bI c.x9)/\bg w vW c.waits.length 1 (dG c.waits)
theorem dD.below{w g:QI}{c:bF}{b d e f:QJ}(h:dD w c b d e f)(a:Y6 w.heap.size w g):dD g c b d e f:=⟨h.1.below a,h.2.1.below a,h.2.2.1.below a,h.2.2.2.below a⟩
def lB(c:bF):Prop:=
 c.host.size<=Y7/\c.xf.length<=140737488351232/\(∀s∈c.xf,s.size<=Y7)/\c.xe.length<=140737488351232/\c.x9.length<=140737488351232/\(∀x∈c.x9,x.1.size<=Y7/\x.2.size<=Y7)/\c.waits.length<=140737488351232
def bF.val(c:bF)(vD vN vU vW:QJ):QJ:=YZ #[T c.host,vD,vN,vU,I J c.most,I J c.size,vW,I J c.xm,I J c.room]
def dk(c:bF):Bool:=fI c.host.data.toList && mK c.xf && lN c.xe && jy c.x9 && aZ c.most 1 10 && aZ c.size 1 1000 && jz c.waits && aZ c.xm 1 1000000000 && aZ c.room 0 1000000
theorem az{w:QI}{v:QJ}{n d:Nat}{c:List QJ}(h:bg w v n d c):∃a b,v=L a n b:=by
 obtain ⟨a,b,h,_⟩:=h.shape;exact ⟨a,b,h⟩
theorem K8(c:bF)(vD vN vU vW:QJ)(m:Int)(w:QI)(h:dD w c vD vN vU vW)(hz:lB c)(hm:w.cell? ⟨0,0,N⟩=S (I J m)):Y8 Ys 47 #[YZ #[T c.host,vD,vN,vU,I J c.most,I J c.size,vW,I J c.xm,I J c.room]] w (dZ (dk c) w):=by
 obtain ⟨d,o,n,l,f,i,b,q,g⟩:=c;obtain ⟨z0,z1,z2,z3,z4,z5,X⟩:=hz;simp only at z0 z1 z2 z3 z4 z5 X h ⊢;have t:=K (show dk ⟨d,o,n,l,f,i,b,q,g⟩=(fI d.data.toList && mK o && lN n && jy l && aZ f 1 10 && aZ i 1 1000 && jz b && aZ q 1 1000000000 && aZ g 0 1000000) from rfl)
 generalize dk ⟨d,o,n,l,f,i,b,q,g⟩=M at *
 obtain ⟨u,z,eD⟩:=az h.1;obtain ⟨v,A,eN⟩:=az h.2.1;obtain ⟨x,B,eU⟩:=az h.2.2.1;obtain ⟨y,C,eW⟩:=az h.2.2.2;simp only at eD eN eU eW;subst eD eN eU eW;have HA:=K h;have h0:=au hm;have Z2:=K z2;have Z5:=K z5;clear h z2 z5;go_enter func47,ntmps47;go_wp2_with fail
 have O:∀E:QI,Y6 (w.heap.size+1) (w.alloc (YU #[T d,L u o.length z,L v n.length A,L x l.length B,I J f,I J i,L y b.length C,I J q,I J g] 35)) E->Y6 w.heap.size w E/\dD E ⟨d,o,n,l,f,i,b,q,g⟩ (L u o.length z) (L v n.length A) (L x l.length B) (L y b.length C)/\E.cell? ⟨0,0,N⟩=S (I J m)/\∀j:Nat,E.cell? ⟨w.heap.size,j,N⟩=(#[T d,L u o.length z,L v n.length A,L x l.length B,I J f,I J i,L y b.length C,I J q,I J g]:Array QJ)[j]? :=by
  intro E hb;have V:Y6 w.heap.size w E:=((QQ _ _).alloc (QR _) _).trans (hb.mono (by omega));refine ⟨V,HA.out.below V,(V.cell h0).trans hm,λj=>?_⟩;rw [hb.cell (p:=⟨w.heap.size,j,N⟩) (by show w.heap.size < w.heap.size+1;omega)];exact World.cell?_alloc_mark w _ 35 (0,0) j
 have HX:=K O;clear O HA hm;have a0:H (Y6 (w.heap.size+1) (w.alloc (YU #[T d,L u o.length z,L v n.length A,L x l.length B,I J f,I J i,L y b.length C,I J q,I J g] 35)) (w.alloc (YU #[T d,L u o.length z,L v n.length A,L x l.length B,I J f,I J i,L y b.length C,I J q,I J g] 35))):=QQ _ _;have a:=HX.out _ a0.out;refine (i7 d m _ z0 a.2.2.1).mono ?_;rintro e E ⟨rfl,a1⟩;have Q:H (Y6 (w.heap.size+1) (w.alloc (YU #[T d,L u o.length z,L v n.length A,L x l.length B,I J f,I J i,L y b.length C,I J q,I J g] 35)) E):=a0.out.trans (a1.mono (by simp));clear a a1;have a:=HX.out _ Q.out;have a5:=K a.1;have c1:E.cell? ⟨w.heap.size,1,N⟩=S (L u o.length z):=a.2.2.2 1;have r:=K a;clear a
 cases D:fI d.data.toList
 case false=>
  go_wp2_with fail
  go_ret;exact dZ.mk F rfl (by rw [t.out,D];rfl) a5.out
 go_wp2_with fail
 have a:=r.out;clear r;refine (sM _ o m _ a.2.1.1 z1 Z2.out a.2.2.1).mono ?_;rintro e w2 ⟨rfl,a2⟩;have R:H (Y6 (w.heap.size+1) (w.alloc (YU #[T d,L u o.length z,L v n.length A,L x l.length B,I J f,I J i,L y b.length C,I J q,I J g] 35)) w2):=Q.out.trans (a2.mono (by have:=Q.out.size;simpa using this));clear a a2;have a:=HX.out _ R.out;have a6:=K a.1;have c2:w2.cell? ⟨w.heap.size,2,N⟩=S (L v n.length A):=a.2.2.2 2;have r:=K a;clear a
 cases G:mK o
 case false=>
  go_wp2_with fail
  go_ret;exact dZ.mk F rfl (by rw [t.out,D,G];rfl) a6.out
 go_wp2_with fail
 have a:=r.out;clear r;refine (AK _ n _ a.2.1.2.1 z3).mono ?_;rintro e w3 ⟨rfl,a3⟩;have U:H (Y6 (w.heap.size+1) (w.alloc (YU #[T d,L u o.length z,L v n.length A,L x l.length B,I J f,I J i,L y b.length C,I J q,I J g] 35)) w3):=R.out.trans (a3.mono (by have:=R.out.size;simpa using this));clear a a3;have a:=HX.out _ U.out;have a7:=K a.1;have c3:w3.cell? ⟨w.heap.size,3,N⟩=S (L x l.length B):=a.2.2.2 3;have r:=K a;clear a
 cases P:lN n
 case false=>
  go_wp2_with fail
  go_ret;exact dZ.mk F rfl (by rw [t.out,D,G,P];rfl) a7.out
 go_wp2_with fail
 have a:=r.out;clear r;refine (Ah _ l _ a.2.1.2.2.1 z4 Z5.out).mono ?_;rintro e w4 ⟨rfl,a4⟩;have a8:H (Y6 (w.heap.size+1) (w.alloc (YU #[T d,L u o.length z,L v n.length A,L x l.length B,I J f,I J i,L y b.length C,I J q,I J g] 35)) w4):=U.out.trans (a4.mono (by have:=U.out.size;simpa using this));clear a a4;have a:=HX.out _ a8.out;have k:=K a.1;have c4:w4.cell? ⟨w.heap.size,4,N⟩=S (I J f):=a.2.2.2 4;have c5:w4.cell? ⟨w.heap.size,5,N⟩=S (I J i):=a.2.2.2 5;have c6:w4.cell? ⟨w.heap.size,6,N⟩=S (L y b.length C):=a.2.2.2 6;have c7:w4.cell? ⟨w.heap.size,7,N⟩=S (I J q):=a.2.2.2 7;have c8:w4.cell? ⟨w.heap.size,8,N⟩=S (I J g):=a.2.2.2 8;have hW:=a.2.1.2.2.2;have Y:=K hW;clear hW;have r:=K a;clear a
 cases W:jy l
 case false=>
  go_wp2_with fail
  go_ret;exact dZ.mk F rfl (by rw [t.out,D,G,P,W];rfl) k.out
 go_wp2_with fail
 have a:=r.out;clear r;clear a
 cases Z:aZ f 1 10
 case false=>
  go_wp2_with (first | (go_at_call 90;refine (ca _ _ _ _).mono ?_;rintro e s ⟨rfl,rfl⟩) | (go_at_call 91;refine (gZ _ b _ Y.out X).mono ?_;rintro e s ⟨rfl,rfl⟩))
  go_ret;exact dZ.mk F rfl (by rw [t.out,D,G,P,W,Z];rfl) k.out
 cases q5:aZ i 1 1000
 case false=>
  go_wp2_with (first | (go_at_call 90;refine (ca _ _ _ _).mono ?_;rintro e s ⟨rfl,rfl⟩) | (go_at_call 91;refine (gZ _ b _ Y.out X).mono ?_;rintro e s ⟨rfl,rfl⟩))
  go_ret;exact dZ.mk F rfl (by rw [t.out,D,G,P,W,Z,q5];rfl) k.out
 cases q6:jz b
 case false=>
  go_wp2_with (first | (go_at_call 90;refine (ca _ _ _ _).mono ?_;rintro e s ⟨rfl,rfl⟩) | (go_at_call 91;refine (gZ _ b _ Y.out X).mono ?_;rintro e s ⟨rfl,rfl⟩))
  go_ret;exact dZ.mk F rfl (by rw [t.out,D,G,P,W,Z,q5,q6];rfl) k.out
 cases q7:aZ q 1 1000000000
 case false=>
  go_wp2_with (first | (go_at_call 90;refine (ca _ _ _ _).mono ?_;rintro e s ⟨rfl,rfl⟩) | (go_at_call 91;refine (gZ _ b _ Y.out X).mono ?_;rintro e s ⟨rfl,rfl⟩))
  go_ret;exact dZ.mk F rfl (by rw [t.out,D,G,P,W,Z,q5,q6,q7];rfl) k.out
 cases q8:aZ g 0 1000000
 case false=>
  go_wp2_with (first | (go_at_call 90;refine (ca _ _ _ _).mono ?_;rintro e s ⟨rfl,rfl⟩) | (go_at_call 91;refine (gZ _ b _ Y.out X).mono ?_;rintro e s ⟨rfl,rfl⟩))
  go_ret;exact dZ.mk F rfl (by rw [t.out,D,G,P,W,Z,q5,q6,q7,q8];rfl) k.out
 go_wp2_with (first | (go_at_call 90;refine (ca _ _ _ _).mono ?_;rintro e s ⟨rfl,rfl⟩) | (go_at_call 91;refine (gZ _ b _ Y.out X).mono ?_;rintro e s ⟨rfl,rfl⟩))
 go_ret;exact dZ.mk YT rfl (by rw [t.out,D,G,P,W,Z,q5,q6,q7,q8];rfl) k.out
def EN(b:Bool):Int:=if b then 0 else 2
def gp(b:Bool)(w:QI)(e:Zb)(w':QI):Prop:=e=YX (I J (EN b))/\Y6 w.heap.size w w'
theorem gp.mk{b:Bool}{w:QI}{e:Zb}{a:QI}(c:Bool)(f:e=YX (I J (EN c)))(d:b=c)(g:Y6 w.heap.size w a):gp b w e a:=⟨by rw [f,d],g⟩
theorem sH(c:bF)(l n o p:QJ)(m:Int)(w:QI)(h:dD w c l n o p)(k:lB c)(b:w.cell? ⟨0,0,N⟩=S (I J m)):Y8 Ys 18 #[YZ #[T c.host,l,n,o,I J c.most,I J c.size,p,I J c.xm,I J c.room]] w (gp (dk c) w):=by
 obtain ⟨x,B,q⟩:=az h.1;obtain ⟨y,C,r⟩:=az h.2.1;obtain ⟨z,D,s⟩:=az h.2.2.1;obtain ⟨A,E,t⟩:=az h.2.2.2;subst q r s t;have d:=K h;have i:=K k;have u:=au b;have g:=K b;clear h k b;go_enter func18,ntmps18;go_wp2_with fail
 refine (K8 c _ _ _ _ m _ (d.out.below ((QQ _ _).alloc (QR _) _)) i.out ?_).mono ?_
 .exact (((QQ w.heap.size w).alloc (QR _) _).cell u).trans g.out
 rintro e v ⟨rfl,a⟩;have f:H (Y6 w.heap.size w v):=((QQ _ _).alloc (QR _) _).trans (a.mono (by simp));clear a d i g
 cases j:dk c
 case false=>
  go_wp2_with fail
  go_ret;exact gp.mk F rfl j f.out
 go_wp2_with fail
 go_ret;exact gp.mk YT rfl j f.out
theorem LQ(l x y:QF)(f:Bool)(h:aJ 0 l=(x,y,f)):decide (Lib.indexByte l 0 < 0)= !f:=by
 cases f
 case true=>
  have:=(gj 0 l (by rw [h])).2.2;rw [this];simp
 have:=(iY 0 l (by rw [h])).2.2;rw [this];rfl
def Bq(b:Bool)(w:QI)(e:Zb)(w':QI):Prop:=e=YX (YW b)/\∃n,w'=w.drewN n
theorem Bq.mk{b:Bool}{w:QI}{e:Zb}{a:QI}(c:Bool)(f:e=YX (YW c))(d:b=c)(n:Nat)(g:a=w.drewN n):Bq b w e a:=⟨by rw [f,d],n,g⟩
theorem wJ(s:QL)(w:QI)(g:s.size<=Y7):Y8 Ys 111 #[T s] w (Bq (iU s.data.toList) w):=by
 go_enter func111,ntmps111;go_wp2_with fail
 have c:H (((0:UInt8).toNat:Int)=0):=rfl;refine (l9 s 0 0 c _ g).mono ?_;rintro e j ⟨x,y,f,rfl,d,n,rfl⟩
 have HT:H (iU s.data.toList=(aZ s.size 1 20 && !f)):=by
  show _=_;rw [iU,LQ _ _ _ _ d,ag]
 unfold maxLen at g;clear d c
 by_cases h:1<=s.size
 .have a:decide ((1:Int)<=(s.size:Int))=YT:=by simp;omega
  by_cases i:s.size<=20
  .have b:decide ((s.size:Int)<=20)=YT:=by simp;omega
   go_wp2_with fail
   go_ret;exact Bq.mk (!f) rfl (by rw [HT.out,aZ,a,b];simp) n rfl
  have b:decide ((s.size:Int)<=20)=F:=by simp;omega
  go_wp2_with fail
  go_ret;exact Bq.mk F rfl (by rw [HT.out,aZ,b];simp) n rfl
 have a:decide ((1:Int)<=(s.size:Int))=F:=by simp;omega
 go_wp2_with fail
 go_ret;exact Bq.mk F rfl (by rw [HT.out,aZ,a];simp) n rfl
theorem mF{w b:QI}{C:Array QJ}{c:bF}{e f g i:QJ}(h:dD w c e f g i)(d:Y6 (w.heap.size+1) (w.alloc (YU C 35)) b):Y6 w.heap.size w b/\dD b c e f g i/\∀j:Nat,b.cell? ⟨w.heap.size,j,N⟩=C[j]? :=by
 have a:Y6 w.heap.size w b:=((QQ _ _).alloc (QR _) _).trans (d.mono (by omega));refine ⟨a,h.below a,λj=>?_⟩;rw [d.cell (p:=⟨w.heap.size,j,N⟩) (by show w.heap.size < w.heap.size+1;omega)];exact World.cell?_alloc_mark w _ 35 (0,0) j
theorem bg.elem{w:QI}{a:QK}{n m d:Nat}{g:List QJ}(h:bg w (L a n d) m 1 g)(k:Nat)(j:k < m):∃b c,a=S ⟨b,c,N⟩/\b < w.heap.size/\w.cell? ⟨b,c+k,N⟩=g[k]? :=by
 obtain ⟨l,f,e,i⟩:=h.one;injection e with e1 e2 e3;subst e1;exact i k j
theorem bg.pair{w:QI}{a:QK}{n m g:Nat}{i:List QJ}(h:bg w (L a n g) m 2 i)(k:Nat)(s:k < m):∃b c,a=S ⟨b,c,N⟩/\b < w.heap.size/\w.cell? ⟨b,c+k * 2,N⟩=i[k * 2]? /\w.cell? ⟨b,c+k * 2+1,N⟩=i[k * 2+1]? :=by
 obtain ⟨u,l,e,r⟩:=h.shape;injection e with f o e3;subst f;obtain ⟨b,c,f,t,p⟩:=r k 0 s (by decide);obtain ⟨j,d,o,_,q⟩:=r k 1 s (by decide)
 obtain ⟨rfl,rfl⟩:j=b/\d=c:=by
  have:=(Uc (o.symm.trans f));simp at this;exact this
 refine ⟨j,d,f,t,?_,?_⟩
 .rw [QT] at p;exact p
 rw [<-Ud] at q;exact q
theorem OX(a l:Int)(c:0<=a)(g:0<=l)(h:l<=32):∃b R:Int,wrap64 (2 ^ (32 - l).toNat)=b/\¬b=0/\a.tmod b=R/\decide (a % 2 ^ (32 - l).toNat=0)=(R == 0):=by
 have f:(32 - l).toNat<=32:=by omega
 have e:((2:Int) ^ (32 - l).toNat)=((2 ^ (32 - l).toNat:Nat):Int):=by rw [TX];rfl
 have i:2 ^ (32 - l).toNat<=2 ^ 32:=S8 (by decide) f;have j:(2:Nat) ^ 32=4294967296:=by decide
 have k:1<=2 ^ (32 - l).toNat:=Ue;have d:(2:Int) ^ (32 - l).toNat≠0:=by rw [e];omega
 refine ⟨2 ^ (32 - l).toNat,a.tmod (2 ^ (32 - l).toNat),?_,d,rfl,?_⟩
 .rw [e];unfold wrap64;omega
 rw [Int.tmod_eq_emod_of_nonneg c,Ri];simp
theorem sV(l:List (QL×QL))(x:QL)(k:Nat)(h:k < l.length):gJ (l.take (k+1)) x=(gJ (l.take k) x || (l[k].1.toList == x.toList)):=by
 rw [gJ,gJ,QV h,List.any_append];simp
def Hj(s:QL):Bool:=kS s.data.toList
def oa(x:Int):Bool:=aZ x 1 1000000000
theorem mz{α:Type}(p:α->Bool)(l:List α)(k:Nat)(h:k < l.length):(l.take (k+1)).all p=((l.take k).all p && p l[k]):=by
 rw [QV h,Ug];simp
theorem rU(c:bF)(vD vN vU vW:QJ)(w:QI)(h:dD w c vD vN vU vW)(hz:lB c):Y8 Ys 63 #[YZ #[T c.host,vD,vN,vU,I J c.most,I J c.size,vW,I J c.xm,I J c.room]] w (gp (dk c) w):=by
 obtain ⟨v,X,V,g,r,u,f,xm,t⟩:=c;obtain ⟨z0,z1,z2,z3,z4,z5,z6⟩:=hz;simp only at z0 z1 z2 z3 z4 z5 z6 h ⊢;have HM:=K (show dk ⟨v,X,V,g,r,u,f,xm,t⟩=(fI v.data.toList && mK X && lN V && jy g && aZ r 1 10 && aZ u 1 1000 && jz f && aZ xm 1 1000000000 && aZ t 0 1000000) from rfl)
 generalize dk ⟨v,X,V,g,r,u,f,xm,t⟩=M at *
 obtain ⟨aD,cD,eD⟩:=az h.1;obtain ⟨aN,cN,eN⟩:=az h.2.1;obtain ⟨aU,cU,eU⟩:=az h.2.2.1;obtain ⟨aW,cW,eW⟩:=az h.2.2.2;simp only at eD eN eU eW;subst eD eN eU eW;have HA:=K h;have Z2:=K z2;have Z5:=K z5;clear h z2 z5;go_enter func63,ntmps63;go_wp2_with fail
 refine (bS v _ z0).mono ?_;rintro e w1 ⟨rfl,n,rfl⟩;have hB:H (Y6 (w.heap.size+1) (w.alloc (YU #[T v,L aD X.length cD,L aN V.length cN,L aU g.length cU,I J r,I J u,L aW f.length cW,I J xm,I J t] 35)) (((w.alloc (YU #[T v,L aD X.length cD,L aN V.length cN,L aU g.length cU,I J r,I J u,L aW f.length cW,I J xm,I J t] 35))).drewN n)):=an _ _ _;have z:H (Y6 w.heap.size w (((w.alloc (YU #[T v,L aD X.length cD,L aN V.length cN,L aU g.length cU,I J r,I J u,L aW f.length cW,I J xm,I J t] 35))).drewN n)):=(mF HA.out hB.out).1;have HH:=K (kE v.data.toList)
 cases q0:kS v.data.toList
 case false=>
  go_wp2_with fail
  go_ret;exact gp.mk F rfl (by rw [HM.out,HH.out,q0];simp) z.out
 cases d5:decide ((X.length:Int)<=5)
 case false=>
  have l:H (mK X=F):=by
   show _=_;rw [mK,decide_eq_false (by simp at d5;omega),Tt]
  go_wp2_with fail
  go_ret;exact gp.mk F rfl (by rw [HM.out,l.out];simp) z.out
 cases n5:decide ((V.length:Int)<=5)
 case false=>
  have l:H (lN V=F):=by
   show _=_;rw [lN,decide_eq_false (by simp at n5;omega),Tt]
  go_wp2_with fail
  go_ret;exact gp.mk F rfl (by rw [HM.out,l.out];simp) z.out
 cases u5:decide ((g.length:Int)<=5)
 case false=>
  have l:H (jy g=F):=by
   show _=_;rw [jy,decide_eq_false (by simp at u5;omega),Tt]
  go_wp2_with fail
  go_ret;exact gp.mk F rfl (by rw [HM.out,l.out];simp) z.out
 cases t1:decide (r < 1)
 case true=>
  have l:H (aZ r 1 10=F):=by
   show _=_;simp at t1;rw [aZ,Uh];simp;omega
  go_wp2_with fail
  go_ret;exact gp.mk F rfl (by rw [HM.out,l.out];simp) z.out
 cases t2:decide (10 < r)
 case true=>
  have l:H (aZ r 1 10=F):=by
   show _=_;simp at t2;rw [aZ,Uh];simp;omega
  go_wp2_with fail
  go_ret;exact gp.mk F rfl (by rw [HM.out,l.out];simp) z.out
 cases s1:decide (u < 1)
 case true=>
  have l:H (aZ u 1 1000=F):=by
   show _=_;simp at s1;rw [aZ,Uh];simp;omega
  go_wp2_with fail
  go_ret;exact gp.mk F rfl (by rw [HM.out,l.out];simp) z.out
 cases s2:decide (1000 < u)
 case true=>
  have l:H (aZ u 1 1000=F):=by
   show _=_;simp at s2;rw [aZ,Uh];simp;omega
  go_wp2_with fail
  go_ret;exact gp.mk F rfl (by rw [HM.out,l.out];simp) z.out
 cases w1:decide ((f.length:Int) < 1)
 case true=>
  have l:H (aZ (f.length:Int) 1 5=F):=by
   show _=_;simp at w1;rw [aZ,Uh];simp;omega
  have c2:H (jz f=F):=by show _=_;rw [jz,l.out,Tt]
  go_wp2_with fail
  go_ret;exact gp.mk F rfl (by rw [HM.out,c2.out];simp) z.out
 cases w2:decide (5 < (f.length:Int))
 case true=>
  have l:H (aZ (f.length:Int) 1 5=F):=by
   show _=_;simp at w2;rw [aZ,Uh];simp;omega
  have c2:H (jz f=F):=by show _=_;rw [jz,l.out,Tt]
  go_wp2_with fail
  go_ret;exact gp.mk F rfl (by rw [HM.out,c2.out];simp) z.out
 cases l1:decide (xm < 1)
 case true=>
  have l:H (aZ xm 1 1000000000=F):=by
   show _=_;simp at l1;rw [aZ,Uh];simp;omega
  go_wp2_with fail
  go_ret;exact gp.mk F rfl (by rw [HM.out,l.out];simp) z.out
 cases l2:decide (1000000000 < xm)
 case true=>
  have l:H (aZ xm 1 1000000000=F):=by
   show _=_;simp at l2;rw [aZ,Uh];simp;omega
  go_wp2_with fail
  go_ret;exact gp.mk F rfl (by rw [HM.out,l.out];simp) z.out
 cases r1:decide (t < 0)
 case true=>
  have l:H (aZ t 0 1000000=F):=by
   show _=_;simp at r1;rw [aZ,Uh];simp;omega
  go_wp2_with fail
  go_ret;exact gp.mk F rfl (by rw [HM.out,l.out];simp) z.out
 cases r2:decide (1000000 < t)
 case true=>
  have l:H (aZ t 0 1000000=F):=by
   show _=_;simp at r2;rw [aZ,Uh];simp;omega
  go_wp2_with fail
  go_ret;exact gp.mk F rfl (by rw [HM.out,l.out];simp) z.out
 have c3:H (M=(X.all Hj && V.all jK && (List.range g.length).all (iq g) && f.all oa)):=by
  show _=_;have hb:(λs:QL=>fI s.data.toList)=Hj:=funext λs=>kE s.data.toList;simp only [decide_eq_false_iff_not,decide_eq_true_eq] at t1 t2 s1 s2 w1 w2 l1 l2 r1 r2 d5 n5 u5;have e1:aZ r 1 10=YT:=by rw [aZ,decide_eq_true (by omega),decide_eq_true (by omega)];rfl
  have e2:aZ u 1 1000=YT:=by rw [aZ,decide_eq_true (by omega),decide_eq_true (by omega)];rfl
  have e3:aZ (f.length:Int) 1 5=YT:=by rw [aZ,decide_eq_true (by omega),decide_eq_true (by omega)];rfl
  have e4:aZ xm 1 1000000000=YT:=by rw [aZ,decide_eq_true (by omega),decide_eq_true (by omega)];rfl
  have e5:aZ t 0 1000000=YT:=by rw [aZ,decide_eq_true (by omega),decide_eq_true (by omega)];rfl
  rw [HM.out,HH.out,q0,mK,lN,jy,jz,e1,e2,e3,e4,e5,decide_eq_true (show X.length<=5 by omega),decide_eq_true (show V.length<=5 by omega),decide_eq_true (show g.length<=5 by omega),hb];simp only [Sy,Bool.and_true];rfl
 go_wp2_with fail
 clear t1 t2 s1 s2 w1 w2 l1 l2 r1 r2 d5 n5 u5 q0 z;go_loopw [3,4] (λok i w'=>∃k:Nat,k<=X.length/\i=I J k/\ok=YW ((X.take k).all Hj)/\Y6 (w.heap.size+1) (w.alloc (YU #[T v,L aD X.length cD,L aN V.length cN,L aU g.length cU,I J r,I J u,L aW f.length cW,I J xm,I J t] 35)) w') (λ_ i _=>X.length - (Y9 i).toNat)
 case atStart=>exact ⟨0,QS _,rfl,rfl,hB.out⟩
 case round=>
  obtain ⟨k,hk,rfl,rfl,hb⟩:=hrel;have a:=mF HA.out hb;have f1:wr.cell? ⟨w.heap.size,1,N⟩=S (L aD X.length cD):=a.2.2 1;have HB:=K hb;have l:=K a;obtain ⟨D,hD⟩:=QE ((X.take k).all Hj);rw [hD];have HD:=K hD;clear hb a hD
  by_cases b4:k < X.length
  .obtain ⟨b,W,rfl,c7,b1⟩:=l.out.2.1.1.elem k b4
   have d4:wr.cell? ⟨b,W+k,N⟩=S (T X[k]):=by
    rw [b1,bA,TV,Re b4];rfl
   have f0:=Z2.out X[k] (QU b4);have HT:=K (mz Hj X k b4);clear b1 l;go_wp2_with fail
   refine (bS _ _ f0).mono ?_;rintro e w2 ⟨rfl,n2,rfl⟩;have c8:=K (HB.out.trans (an n2 wr (w.heap.size+1)));obtain ⟨G,hG⟩:=QE (kS X[k].data.toList);rw [hG];have HG:=K hG;clear hG
   cases D
   case false=>
    go_wp2_with fail
    exact ⟨⟨k+1,by omega,by go_num,(by rw [HT.out,HD.out];rfl),c8.out⟩,by simp [Y9];omega⟩
   go_wp2_with fail
   exact ⟨⟨k+1,by omega,by go_num,(by rw [HT.out,HD.out,Sy,Hj,HG.out]),c8.out⟩,by simp [Y9];omega⟩
  have c9:H (X.all Hj=D):=by
   show _=_;rw [<-HD.out,SQ (by omega)]
  have f6:wr.cell? ⟨w.heap.size,6,N⟩=S (L aW f.length cW):=l.out.2.2 6;go_wp2_with fail
  obtain ⟨W1,e7⟩:=QE wr;subst e7;clear HD hk b4 f1;go_loopw [3,6] (λok i w'=>∃k:Nat,k<=f.length/\i=I J k/\ok=YW (D && (f.take k).all oa)/\w'=wr) (λ_ i _=>f.length - (Y9 i).toNat)
  case atStart=>exact ⟨0,QS _,rfl,(by simp),rfl⟩
  case round=>
   obtain ⟨k2,e8,rfl,rfl,rfl⟩:=hrel;have a8:=K (show ∀h:k2 < f.length,(D && (f.take (k2+1)).all oa)=((D && (f.take k2).all oa) && oa f[k2]) from λh=>by rw [mz oa f k2 h,Tr])
   obtain ⟨E,hE⟩:=QE ((D && (f.take k2).all oa));rw [hE];have HE:=K hE;clear hE
   by_cases Z:k2 < f.length
   .obtain ⟨b,W,rfl,c7,b1⟩:=l.out.2.1.2.2.2.elem k2 Z;obtain ⟨x,hx⟩:=QE (f[k2])
    have d4:wr.cell? ⟨b,W+k2,N⟩=S (I J x):=by
     rw [b1,dG,TV,Re Z, <-hx];rfl
    have HX:=K hx;clear b1 l hx
    cases E
    case false=>
     go_wp2_with fail
     exact ⟨⟨k2+1,by omega,by go_num,(by rw [a8.out Z,HE.out];rfl),trivial⟩,by simp [Y9];omega⟩
    cases g1:decide (1<=x)
    case false=>
     go_wp2_with fail
     exact ⟨⟨k2+1,by omega,by go_num,(by rw [a8.out Z,HE.out,HX.out,oa,aZ,g1];rfl),trivial⟩,by simp [Y9];omega⟩
    cases g2:decide (x<=1000000000)
    case false=>
     go_wp2_with fail
     exact ⟨⟨k2+1,by omega,by go_num,(by rw [a8.out Z,HE.out,HX.out,oa,aZ,g1,g2];rfl),trivial⟩,by simp [Y9];omega⟩
    go_wp2_with fail
    exact ⟨⟨k2+1,by omega,by go_num,(by rw [a8.out Z,HE.out,HX.out,oa,aZ,g1,g2];rfl),trivial⟩,by simp [Y9];omega⟩
   have d0:H ((D && f.all oa)=E):=by
    show _=_;rw [<-HE.out,SQ (by omega)]
   have f2:wr.cell? ⟨w.heap.size,2,N⟩=S (L aN V.length cN):=l.out.2.2 2;go_wp2_with fail
   clear HE a8 e8 Z f6;go_loopw [3,7] (λok i w'=>∃(k:Nat) (o:Bool),k<=V.length/\i=I J k/\ok=YW o/\H ((E && (V.take k).all jK)=o)/\H (k=0\/o=YT)/\Y6 (w.heap.size+1) (w.alloc (YU #[T v,L aD X.length cD,L aN V.length cN,L aU g.length cU,I J r,I J u,L aW f.length cW,I J xm,I J t] 35)) w') (λ_ i _=>V.length - (Y9 i).toNat)
   case atStart=>exact ⟨0,E,QS _,rfl,rfl,(by show _=_;simp),Or.inl rfl,HB.out⟩
   case round=>
    obtain ⟨k3,o,e9,rfl,rfl,HO,d1,c5⟩:=hrel;have F3:=mF HA.out c5;have e6:wr.cell? ⟨w.heap.size,2,N⟩=S (L aN V.length cN):=F3.2.2 2;have a6:=K c5;have b6:=K F3;clear c5 F3
    by_cases a0:k3 < V.length
    .obtain ⟨b,W,rfl,c7,a9,b0⟩:=b6.out.2.1.2.1.pair k3 a0;obtain ⟨xa,xl,hx⟩:∃xa xl,V[k3]=(xa,xl):=⟨_,_,rfl⟩;have d2:wr.cell? ⟨b,W+k3 * 2,N⟩=S (I J xa):=by rw [a9,qy V k3 a0,hx]
     have d3:wr.cell? ⟨b,W+k3 * 2+1,N⟩=S (I J xl):=by rw [b0,nF V k3 a0,hx]
     have HX:=K hx;clear a9 b0 hx b6
     have U:jK (xa,xl)=F->M=F:=by
      intro hf;have:V.all jK=F:=sE (p:=jK) a0 (by rw [HX.out];exact hf);rw [c3.out,this];simp
     have a5:∀o:Obj,H (Y6 w.heap.size w (wr.alloc o)):=λo=>(mF HA.out (a6.out.alloc (by have:=a6.out.size;simp at this;omega) o)).1
     cases o
     case false=>
      have l:H (M=F):=by
       show _=_;have h0:k3=0:=d1.out.resolve_right (by simp);have h1:=HO.out;rw [h0] at h1;simp at h1;have h2:=d0.out;rw [h1] at h2;rw [c3.out,c9.out]
       cases D <;> simp_all
      clear U;go_wp2_with fail
      go_quiet (fail)
      go_wp2_with fail
      go_ret;exact gp.mk F rfl l.out ((a5 _).out.trans (an _ _ _))
     cases p1:decide (0<=xl)
     case false=>
      have l:H (M=F):=U (by rw [jK,aZ,aZ,p1];simp);go_wp2_with fail
      go_quiet (fail)
      go_wp2_with fail
      go_ret;exact gp.mk F rfl l.out ((a5 _).out.trans (an _ _ _))
     cases p2:decide (xl<=32)
     case false=>
      have l:H (M=F):=U (by rw [jK,aZ,aZ,p2];simp);go_wp2_with fail
      go_quiet (fail)
      go_wp2_with fail
      go_ret;exact gp.mk F rfl l.out ((a5 _).out.trans (an _ _ _))
     cases p3:decide (0<=xa)
     case false=>
      have l:H (M=F):=U (by rw [jK,aZ,aZ,p3];simp);go_wp2_with fail
      go_quiet (fail)
      go_wp2_with fail
      go_ret;exact gp.mk F rfl l.out ((a5 _).out.trans (an _ _ _))
     cases p4:decide (xa<=4294967295)
     case false=>
      have l:H (M=F):=U (by rw [jK,aZ,aZ,p4];simp);go_wp2_with fail
      go_quiet (fail)
      go_wp2_with fail
      go_ret;exact gp.mk F rfl l.out ((a5 _).out.trans (an _ _ _))
     have i1:0<=xl:=by simpa using p1
     have i2:xl<=32:=by simpa using p2
     have i3:0<=xa:=by simpa using p3
     obtain ⟨d,R,g5,f9,g4,hR⟩:=OX xa xl i3 i1 i2;have HR:=K hR;clear hR i3
     cases p5:(R == 0)
     case false=>
      have l:H (M=F):=U (by rw [jK,HR.out,p5,SG]);clear U;go_wp2_with fail
      go_big_quiet (fail)
      go_wp2_with fail
      go_ret;exact gp.mk F rfl l.out ((a5 _).out.trans (an _ _ _))
     have HN:H (jK (xa,xl)=YT):=by
      show _=_;rw [jK,aZ,aZ,p1,p2,p3,p4,HR.out,p5];rfl
     clear U;go_wp2_with fail
     go_big_quiet (fail)
     go_wp2_with fail
     refine ⟨⟨k3+1,YT,by omega,by go_num,rfl,?_,Or.inr rfl,(a6.out.alloc (by have:=a6.out.size;simp at this;omega) _).trans (an _ _ _)⟩,by simp [Y9];omega⟩
     show _=_;rw [mz jK V k3 a0, <-Tr,HO.out,HX.out,HN.out];rfl
    have d9:H ((E && V.all jK)=o):=by
     show _=_;rw [<-HO.out,SQ (by omega)]
    have f7:=K (b6.out.1);have f3:wr.cell? ⟨w.heap.size,3,N⟩=S (L aU g.length cU):=b6.out.2.2 3;go_wp2_with fail
    clear HO d1 e9 a0 e6 f2;go_loopw [3,9] (λok i w'=>∃k:Nat,k<=g.length/\i=I J k/\ok=YW (o && (List.range k).all (iq g))/\Y6 (w.heap.size+1) (w.alloc (YU #[T v,L aD X.length cD,L aN V.length cN,L aU g.length cU,I J r,I J u,L aW f.length cW,I J xm,I J t] 35)) w') (λ_ i _=>g.length - (Y9 i).toNat)
    case atStart=>exact ⟨0,QS _,rfl,(by simp),a6.out⟩
    case round=>
     obtain ⟨A,g0,rfl,rfl,c6⟩:=hrel;have F4:=mF HA.out c6;have f8:wr.cell? ⟨w.heap.size,3,N⟩=S (L aU g.length cU):=F4.2.2 3;have c1:=K c6;have a7:=K F4;have b7:=K (show (o && (List.range (A+1)).all (iq g))=((o && (List.range A).all (iq g)) && iq g A) by rw [Ui,Ug,Tr];simp)
     obtain ⟨q,hq⟩:=QE ((o && (List.range A).all (iq g)));rw [hq] at b7 ⊢;have HQ:=K hq;clear c6 F4 hq
     by_cases a1:A < g.length
     .obtain ⟨b,W,rfl,c7,a9,b0⟩:=a7.out.2.1.2.2.1.pair A a1;obtain ⟨O,x2,hx⟩:∃O x2,g[A]=(O,x2):=⟨_,_,rfl⟩;have d2:wr.cell? ⟨b,W+A * 2,N⟩=S (T O):=by rw [a9,jt g A a1,hx]
      have d3:wr.cell? ⟨b,W+A * 2+1,N⟩=S (T x2):=by rw [b0,j7 g A a1,hx]
      have d8:=Z5.out g[A] (QU a1);rw [hx] at d8;obtain ⟨f4,f5⟩:=d8
      have c4:H (iq g A=(iU O.data.toList && iU x2.data.toList && !gJ (g.take A) O)):=by
       show _=_;have:g.getD A (ByteArray.empty,ByteArray.empty)=(O,x2):=by rw [Q5,Re a1, <-hx];rfl
       rw [iq,this]
      clear a9 b0 hx;go_wp2_with fail
      refine (wJ O _ f4).mono ?_;rintro e w5 ⟨rfl,n5,rfl⟩;go_wp2_with fail
      refine (wJ x2 _ f5).mono ?_;rintro e w6 ⟨rfl,n6,rfl⟩;obtain ⟨q2,d6⟩:=QE ((q && iU O.data.toList && iU x2.data.toList));have e0:=K d6;clear d6
      generalize iU O.data.toList=tb1 at *
      generalize iU x2.data.toList=tb2 at *
      clear e0
      cases q
      case false=>
       go_wp2_with fail
       go_loopw [3,12] (λok i w'=>∃(j m:Nat),j<=A/\i=I J j/\ok=YW (F && !gJ (g.take j) O)/\w'=wr.drewN m) (λ_ i _=>A - (Y9 i).toNat)
       case atStart=>exact ⟨0,n5+n6,by omega,rfl,(by simp [gJ]),rfl⟩
       case round=>
        obtain ⟨j,m,b3,rfl,rfl,rfl⟩:=hrel
        by_cases a2:j < A
        .have B:=K (sV g O j (by omega));obtain ⟨b2,a4,e2,_,b5,_⟩:=a7.out.2.1.2.2.1.pair j (show j < g.length by omega)
         obtain ⟨rfl,rfl⟩:b2=b/\a4=W:=by
          have:=(Uc e2).symm;simp at this;exact this
         obtain ⟨y,hy⟩:=QE (g[j].1);rw [jt g j (by omega),hy] at b5;rw [hy] at B;clear e2 hy;obtain ⟨Q,hQ⟩:=QE ((F && !gJ (g.take j) O));rw [hQ];have Y:=K hQ;clear hQ
         cases Q
         case false=>
          go_wp2_with fail
          go_quiet (fail)
          go_wp2_with fail
          exact ⟨⟨j+1,_,by omega,by go_num,(by rw [B.out,Uj, <-Tr,Y.out];rfl),rfl⟩,by simp [Y9];omega⟩
         cases C:(y.toList == O.toList)
         case true=>
          have a3:(y.toList != O.toList)=F:=by rw [bne,C];rfl
          go_wp2_with fail
          go_quiet (fail)
          go_wp2_with fail
          exact ⟨⟨j+1,_,by omega,by go_num,(by rw [B.out,Uj, <-Tr,Y.out,C];rfl),rfl⟩,by simp [Y9];omega⟩
         have a3:(y.toList != O.toList)=YT:=by rw [bne,C];rfl
         go_wp2_with fail
         go_quiet (fail)
         go_wp2_with fail
         exact ⟨⟨j+1,_,by omega,by go_num,(by rw [B.out,Uj, <-Tr,Y.out,C];rfl),rfl⟩,by simp [Y9];omega⟩
        have P:j=A:=by omega
        rw [P];clear P b3 a2;go_wp2_with fail
        exact ⟨⟨A+1,by omega,by go_num,(by rw [b7.out,c4.out];rfl),c1.out.trans (an _ _ _)⟩,by simp [Y9];omega⟩
      cases tb1
      case false=>
       go_wp2_with fail
       go_loopw [3,12] (λok i w'=>∃(j m:Nat),j<=A/\i=I J j/\ok=YW (F && !gJ (g.take j) O)/\w'=wr.drewN m) (λ_ i _=>A - (Y9 i).toNat)
       case atStart=>exact ⟨0,n5+n6,by omega,rfl,(by simp [gJ]),rfl⟩
       case round=>
        obtain ⟨j,m,b3,rfl,rfl,rfl⟩:=hrel
        by_cases a2:j < A
        .have B:=K (sV g O j (by omega));obtain ⟨b2,a4,e2,_,b5,_⟩:=a7.out.2.1.2.2.1.pair j (show j < g.length by omega)
         obtain ⟨rfl,rfl⟩:b2=b/\a4=W:=by
          have:=(Uc e2).symm;simp at this;exact this
         obtain ⟨y,hy⟩:=QE (g[j].1);rw [jt g j (by omega),hy] at b5;rw [hy] at B;clear e2 hy;obtain ⟨Q,hQ⟩:=QE ((F && !gJ (g.take j) O));rw [hQ];have Y:=K hQ;clear hQ
         cases Q
         case false=>
          go_wp2_with fail
          go_quiet (fail)
          go_wp2_with fail
          exact ⟨⟨j+1,_,by omega,by go_num,(by rw [B.out,Uj, <-Tr,Y.out];rfl),rfl⟩,by simp [Y9];omega⟩
         cases C:(y.toList == O.toList)
         case true=>
          have a3:(y.toList != O.toList)=F:=by rw [bne,C];rfl
          go_wp2_with fail
          go_quiet (fail)
          go_wp2_with fail
          exact ⟨⟨j+1,_,by omega,by go_num,(by rw [B.out,Uj, <-Tr,Y.out,C];rfl),rfl⟩,by simp [Y9];omega⟩
         have a3:(y.toList != O.toList)=YT:=by rw [bne,C];rfl
         go_wp2_with fail
         go_quiet (fail)
         go_wp2_with fail
         exact ⟨⟨j+1,_,by omega,by go_num,(by rw [B.out,Uj, <-Tr,Y.out,C];rfl),rfl⟩,by simp [Y9];omega⟩
        have P:j=A:=by omega
        rw [P];clear P b3 a2;go_wp2_with fail
        exact ⟨⟨A+1,by omega,by go_num,(by rw [b7.out,c4.out];rfl),c1.out.trans (an _ _ _)⟩,by simp [Y9];omega⟩
      go_wp2_with fail
      go_loopw [3,12] (λok i w'=>∃(j m:Nat),j<=A/\i=I J j/\ok=YW (tb2 && !gJ (g.take j) O)/\w'=wr.drewN m) (λ_ i _=>A - (Y9 i).toNat)
      case atStart=>exact ⟨0,n5+n6,by omega,rfl,(by simp [gJ]),rfl⟩
      case round=>
       obtain ⟨j,m,b3,rfl,rfl,rfl⟩:=hrel
       by_cases a2:j < A
       .have B:=K (sV g O j (by omega));obtain ⟨b2,a4,e2,_,b5,_⟩:=a7.out.2.1.2.2.1.pair j (show j < g.length by omega)
        obtain ⟨rfl,rfl⟩:b2=b/\a4=W:=by
         have:=(Uc e2).symm;simp at this;exact this
        obtain ⟨y,hy⟩:=QE (g[j].1);rw [jt g j (by omega),hy] at b5;rw [hy] at B;clear e2 hy;obtain ⟨Q,hQ⟩:=QE ((tb2 && !gJ (g.take j) O));rw [hQ];have Y:=K hQ;clear hQ
        cases Q
        case false=>
         go_wp2_with fail
         go_quiet (fail)
         go_wp2_with fail
         exact ⟨⟨j+1,_,by omega,by go_num,(by rw [B.out,Uj, <-Tr,Y.out];rfl),rfl⟩,by simp [Y9];omega⟩
        cases C:(y.toList == O.toList)
        case true=>
         have a3:(y.toList != O.toList)=F:=by rw [bne,C];rfl
         go_wp2_with fail
         go_quiet (fail)
         go_wp2_with fail
         exact ⟨⟨j+1,_,by omega,by go_num,(by rw [B.out,Uj, <-Tr,Y.out,C];rfl),rfl⟩,by simp [Y9];omega⟩
        have a3:(y.toList != O.toList)=YT:=by rw [bne,C];rfl
        go_wp2_with fail
        go_quiet (fail)
        go_wp2_with fail
        exact ⟨⟨j+1,_,by omega,by go_num,(by rw [B.out,Uj, <-Tr,Y.out,C];rfl),rfl⟩,by simp [Y9];omega⟩
       have P:j=A:=by omega
       rw [P];clear P b3 a2;go_wp2_with fail
       exact ⟨⟨A+1,by omega,by go_num,(by rw [b7.out,c4.out];simp),c1.out.trans (an _ _ _)⟩,by simp [Y9];omega⟩
     have HU:H (M=q):=by
      show _=_;have d7:=HQ.out;rw [show A=g.length by omega] at d7
      rw [c3.out,c9.out, <-d7, <-d9.out, <-d0.out]
      cases D <;> cases V.all jK <;> cases f.all oa <;> cases (List.range g.length).all (iq g) <;> rfl
     have c0:=K a7.out.1
     cases q
     case false=>
      go_wp2_with fail
      go_ret;exact gp.mk F rfl HU.out c0.out
     go_wp2_with fail
     go_ret;exact gp.mk YT rfl HU.out c0.out
theorem DK{a:QL}{l:QF}(h:a=bs l):YX (T a)=YX (T (bs l)):=by rw [h]
def j6(l:QF):QF:=aG 1 l.length++l
theorem ue(l:QF)(w:QI)(j:l.length<=1048576):Y8 Ys 245 #[T (bs l)] w λe i=>e=YX (T (bs (j6 l)))/\Y6 w.heap.size w i:=by
 have k:=aj l;have a:=du l.length 1 w (by unfold maxLen;omega) (by decide);obtain ⟨p,b⟩:=QE (aG 1 l.length);have g:p.length=1:=by rw [<-b,aY]
 have h:=aj p;rw [b] at a;have f:=K b;clear b;go_enter func245,ntmps245;go_wp2_with fail
 refine a.mono ?_;rintro e m ⟨rfl,c⟩;have d:=K c;clear a c;go_wp2_with fail
 go_ret;exact ⟨DK (by rw [aQ, <-f.out];rfl),d.out⟩
def bJ(l:QF):QF:=aG 4 l.length++(aG 4 (po l)++l)
theorem A8(l:QF)(w:QI)(D:l.length<=1048576):Y8 Ys 128 #[T (bs l)] w λe g=>e=YX (T (bs (bJ l)))/\Y6 w.heap.size w g:=by
 have A:=aj l;have b:=du l.length 4 w (by unfold maxLen;omega) (by decide);have c:=λg=>zQ (bs l) g (by rw [A];unfold maxLen;omega);have d:po l<=4294967295:=by unfold po;omega
 rw [ao] at c;obtain ⟨C,k⟩:=QE (po l);rw [k] at c d;have a:=λg=>du C 4 g (by unfold maxLen;omega) (by decide);obtain ⟨p,h⟩:=QE (aG 4 l.length);obtain ⟨q,i⟩:=QE (aG 4 C);have u:p.length=4:=by rw [<-h,aY]
 have y:q.length=4:=by rw [<-i,aY]
 have x:=aj p;have z:=aj q;rw [h] at b;rw [i] at a;have s:=K h;have HQ:=K i;have o:=K k;have r:=K d;have t:=K c;have n:=K a;clear h i k d c a;go_enter func128,ntmps128;go_wp2_with fail
 refine b.mono ?_;rintro e E ⟨rfl,f⟩;have m:=K f;clear b f;go_wp2_with fail
 refine (t.out _).mono ?_;rintro e B ⟨rfl,rfl⟩;go_wp2_with fail
 refine (n.out _).mono ?_;rintro e B ⟨rfl,f⟩;have j:=K (m.out.trans (f.mono m.out.size));clear f;have v:(bs p++bs q).size=8:=by rw [aQ,aj,RI];omega
 go_wp2_with fail
 go_ret;refine ⟨DK ?_,j.out⟩;rw [aQ,aQ, <-s.out, <-HQ.out, <-o.out,Sq];rfl
def ja(l:List Nat):QF:=l.flatMap (aG 1)
theorem Dx(l:List Nat)(k:Nat)(h:k < l.length):ja (l.take (k+1))=ja (l.take k)++aG 1 l[k]:=by
 unfold ja;rw [QV h,U9];simp
theorem tU(l:List Nat):(ja l).length=l.length:=by
 induction l with
 | nil=>rfl
 | cons a l ih=>show (aG 1 a++ja l).length=_;rw [RI,aY,ih,RQ];omega
def cG(id:Nat)(l:List Nat):QF:=aG 4 id++(aG 1 l.length++ja l)
def bc(l:List Nat):List QJ:=l.map λ(n:Nat)=>I J (n:Int)
theorem p8(z:Nat)(v:QJ)(l:List Nat)(w:QI)(u:z<=Y7)(h:bg w v l.length 1 (bc l))(hl:l.length<=255)(n:∀x∈l,x<=255):Y8 Ys 78 #[I J z,v] w λe A=>e=YX (T (bs (cG z l)))/\Y6 w.heap.size w A:=by
 obtain ⟨a,X,rfl,g⟩:=h.one;have U:=K h;have r:=K n;have d:=du z 4 w u (by decide);have f:=λA=>du l.length 1 A (by unfold maxLen;omega) (by decide);obtain ⟨p,B⟩:=QE (aG 4 z);obtain ⟨q,C⟩:=QE (aG 1 l.length);have a0:p.length=4:=by rw [<-B,aY]
 have a2:q.length=1:=by rw [<-C,aY]
 have a1:=aj p;have a3:=aj q;rw [B] at d;rw [C] at f;have W:=K B;have HQ:=K C;have Q:=K f;clear B C f h n g u;go_enter func78,ntmps78;go_wp2_with fail
 refine d.mono ?_;rintro e w1 ⟨rfl,o⟩;have m:=K o;clear d o;go_wp2_with fail
 refine (Q.out _).mono ?_;rintro e w2 ⟨rfl,o⟩;have s:=K (m.out.trans (o.mono m.out.size));clear o m;go_wp2_with fail
 go_loopw [5,6] (λsv i A=>∃(k:Nat) (c:QF),k<=l.length/\i=I J k/\sv=T (bs c)/\c.length=5+k/\H (c=p++(q++ja (l.take k)))/\H (Y6 w.heap.size w A)) (λ_ i _=>l.length - (Y9 i).toNat)
 case atStart=>
  refine ⟨0,p++q,QS _,rfl,by rw [aQ],by rw [RI];omega,K ?_,s⟩
  simp [ja]
 case round=>
  obtain ⟨k,c,hk,rfl,rfl,hS,O,m⟩:=hrel;clear s;have Y:=aj c
  by_cases j:k < l.length
  .obtain ⟨b,M,rfl,Z,P⟩:=(U.out.below m.out).elem k j;have ec:wr.cell? ⟨b,M+k,N⟩=S (I J (l[k]:Int)):=by rw [P];simp [bc,j]
   have y:=r.out l[k] (QU j);have d:=du l[k] 1 wr (by unfold maxLen;omega) (by decide);obtain ⟨t,D⟩:=QE (aG 1 l[k]);have a4:t.length=1:=by rw [<-D,aY]
   have a5:=aj t;rw [D] at d;have HT:=K D;have R:=K d;have V:=K y;clear P D d y;go_wp2_with fail
   refine R.out.mono ?_;rintro e w3 ⟨rfl,o⟩;have E:=K (m.out.trans (o.mono m.out.size));clear o;go_wp2_with fail
   refine ⟨⟨k+1,c++t,by omega,by go_num,by rw [aQ],by rw [RI];omega,K ?_,E⟩,by simp [Y9];omega⟩
   rw [O.out,Dx l k j,HT.out];simp [Sq]
  have G:k=l.length:=by omega
  subst G;go_wp2_with fail
  go_ret;refine ⟨DK ?_,m.out⟩;rw [O.out,QZ, <-W.out, <-HQ.out];rfl
structure aX where
 id:Nat
 time:Nat
 xk:QF
 xd:List QF
 body:QF
def fi(l:List QF):QF:=l.flatMap j6
theorem um(l:List QF)(k:Nat)(h:k < l.length):fi (l.take (k+1))=fi (l.take k)++j6 l[k]:=by
 unfold fi;rw [QV h,U9];simp
theorem Cq(l:QF):(j6 l).length=1+l.length:=by rw [j6,RI,aY]
def bT(m:aX):QF:=77::(aG 4 m.id++(aG 4 m.time++(j6 m.xk++(aG 1 m.xd.length++(fi m.xd++(aG 2 m.body.length++m.body))))))
def bh(m:aX)(v:QJ):Array QJ:=#[I J m.id,I J m.time,T (bs m.xk),v,T (bs m.body)]
def dJ(m:aX):Prop:=m.id<=4294967295/\m.time<=4294967295/\m.xk.length<=255/\m.xd.length<=255/\(∀t∈m.xd,t.length<=255)/\m.body.length<=1048576
def ah(l:List QF):List QJ:=l.map λt=>T (bs t)
theorem iI{s:Nat}{a b c:QI}(e:a.heap.size=s+1)(h:Y6 (s+1) a b)(d:Y6 b.heap.size b c):Y6 (s+1) a c:=h.trans (d.mono (by have:=h.size;omega))
theorem p9(m:aX)(v:QJ)(w:QI)(h:bg w v m.xd.length 1 (ah m.xd))(hz:dJ m):Y8 Ys 185 #[YZ (bh m v)] w λe f=>e=YX (T (bs (bT m)))/\Y6 w.heap.size w f:=by
 obtain ⟨M,g,O,l,d⟩:=m;obtain ⟨z1,z2,z3,z4,z5,z6⟩:=hz;simp only at h z1 z2 z3 z4 z5 z6;obtain ⟨a,q,rfl,_⟩:=h.one;have HH:=K h;have a6:=K z5;have c1:=K (λf=>du M 4 f (by unfold maxLen;omega) (by decide));have c2:=K (λf=>du g 4 f (by unfold maxLen;omega) (by decide));have c3:=K (λf=>ue O f (by omega));have c4:=K (λf=>du l.length 1 f (by unfold maxLen;omega) (by decide));have c5:=K (λf=>du d.length 2 f (by unfold maxLen;omega) (by decide));obtain ⟨p1,B⟩:∃p,aG 4 M=p:=⟨_,rfl⟩;obtain ⟨p2,C⟩:∃p,aG 4 g=p:=⟨_,rfl⟩;obtain ⟨Q,D⟩:∃p,j6 O=p:=⟨_,rfl⟩;obtain ⟨p4,E⟩:∃p,aG 1 l.length=p:=⟨_,rfl⟩;obtain ⟨p5,G⟩:∃p,aG 2 d.length=p:=⟨_,rfl⟩;have l1:p1.length=4:=by rw [<-B,aY]
 have l2:p2.length=4:=by rw [<-C,aY]
 have l3:Q.length<=256:=by rw [<-D,Cq];omega
 have l4:p4.length=1:=by rw [<-E,aY]
 have l5:p5.length=2:=by rw [<-G,aY]
 have s1:=aj p1;have s2:=aj p2;have s3:=aj Q;have s4:=aj p4;have s5:=aj p5;have s6:=aj d;have s7:=aj O;rw [B] at c1;rw [C] at c2;rw [D] at c3;rw [E] at c4;rw [G] at c5;have HP:H (bT ⟨M,g,O,l,d⟩=77::(p1++(p2++(Q++(p4++(fi l++(p5++d))))))):=K (by rw [<-B, <-C, <-D, <-E, <-G];rfl);clear B C D E G h z5;simp only [bh];go_enter func185,ntmps185;go_wp2_with fail
 obtain ⟨o,y⟩:=QE (w.alloc (YU #[I J M,I J g,T (bs O),L a l.length q,T (bs d)] 91));have s:o.heap.size=w.heap.size+1:=by rw [<-y];simp
 have X:=QG y;have hx:∀j:Nat,o.cell? ⟨w.heap.size,j,N⟩=(#[I J M,I J g,T (bs O),L a l.length q,T (bs d)]:Array QJ)[j]? :=λj=>by rw [<-y];exact World.cell?_alloc_mark w _ 91 (0,0) j
 rw [y];clear y;have R:H (∀f:QI,Y6 (w.heap.size+1) o f->∀j:Nat,f.cell? ⟨w.heap.size,j,N⟩=(#[I J M,I J g,T (bs O),L a l.length q,T (bs d)]:Array QJ)[j]?):=K (λf r j=>(r.cell (show w.heap.size < w.heap.size+1 by omega)).trans (hx j));clear hx;have u:H (∀f:QI,Y6 (w.heap.size+1) o f->(Y6 (w.heap.size+1) o f/\f.cell? ⟨w.heap.size,0,N⟩=S (I J M)/\f.cell? ⟨w.heap.size,1,N⟩=S (I J g)/\f.cell? ⟨w.heap.size,2,N⟩=S (T (bs O))/\f.cell? ⟨w.heap.size,3,N⟩=S (L a l.length q))):=K (λf r=>⟨r,R.out f r 0,R.out f r 1,R.out f r 2,R.out f r 3⟩);have V:=K X;have x:Y6 (w.heap.size+1) o o:=QQ _ _;clear X;obtain ⟨_,k0,k1,k2,k3⟩:=u.out o x;have q1:¬9223372036854775807 < 9+Q.length:=by omega
 have q2:¬9223372036854775807 < 9+Q.length+1:=by omega
 go_region_held3 (λf=>Y6 (w.heap.size+1) o f/\f.cell? ⟨w.heap.size,0,N⟩=S (I J M)/\f.cell? ⟨w.heap.size,1,N⟩=S (I J g)/\f.cell? ⟨w.heap.size,2,N⟩=S (T (bs O))/\f.cell? ⟨w.heap.size,3,N⟩=S (L a l.length q))
  (first | exact u.out _ B4 | exact u.out _ B3 | exact u.out _ B2 | exact u.out _ B1 | exact u.out _ x.drew | exact u.out _ x | exact u.out _ B1.drew | exact u.out _ B2.drew | exact u.out _ B3.drew | exact u.out _ B4.drew)
  (first
   | (go_at_call 245;refine (c3.out _).mono ?_;rintro e w3 ⟨rfl,a0⟩;have B3:=iI s B2 a0)
   | (go_at_call_of 77 (I J (M:Int));refine (c1.out _).mono ?_;rintro e w1 ⟨rfl,Y⟩;have B1:=iI s x.drew Y)
   | (go_at_call_of 77 (I J (g:Int));refine (c2.out _).mono ?_;rintro e w2 ⟨rfl,Z⟩;have B2:=iI s B1 Z)
   | (go_at_call_of 77 (I J (l.length:Int));refine (c4.out _).mono ?_;rintro e w4 ⟨rfl,a1⟩;have B4:=iI s B3 a1))
 have W:=K B4;obtain ⟨P,hP⟩:∃P,P=77::(p1++(p2++(Q++p4))):=⟨_,rfl⟩
 have eP:(⟨#[77]⟩:QL)++bs p1++bs p2++bs Q++bs p4=bs P:=by
  rw [show (⟨#[77]⟩:QL)=bs [77] from rfl,aQ,aQ,aQ,aQ,hP];simp [Sq]
 have b0:P.length=10+Q.length:=by rw [hP];simp;omega
 rw [eP];have a5:=K hP;have b1:=aj P;clear Y Z a0 a1 B1 B2 B3 B4 x k0 k1 k2 k3 hP eP q1 q2 c1 c2 c3 c4;go_wp2_with fail
 go_loopw [3,4] (λsv i f=>∃(k:Nat) (c:QF),k<=l.length/\i=I J k/\sv=T (bs c)/\c.length<=266+256 * k/\H (c=P++fi (l.take k))/\H (Y6 (w.heap.size+1) o f)) (λ_ i _=>l.length - (Y9 i).toNat)
 case atStart=>exact ⟨0,P,QS _,rfl,rfl,by omega,K (by simp [fi]),W⟩
 case round=>
  clear W;obtain ⟨k,c,hk,rfl,rfl,hS,HS,U⟩:=hrel;have b2:=aj c;have k3:wr.cell? ⟨w.heap.size,3,N⟩=S (L a l.length q):=R.out wr U.out 3
  by_cases A:k < l.length
  .obtain ⟨b,a9,rfl,b3,hc⟩:=(HH.out.below (V.out.trans (U.out.mono (by omega)))).elem k A;have ec:wr.cell? ⟨b,a9+k,N⟩=S (T (bs l[k])):=by rw [hc];simp [ah,A]
   have a8:=a6.out l[k] (QU A);have n:=ue l[k] wr (by omega);obtain ⟨t,ht⟩:=QE (j6 l[k]);have b4:t.length<=256:=by rw [<-ht,Cq];omega
   have b5:=aj t;rw [ht] at n;have HT:=K ht;have HC:=K n;clear hc ht n a8;go_wp2_with fail
   refine HC.out.mono ?_;rintro e w5 ⟨rfl,r⟩;have a3:=K (iI s U.out r);clear r;go_wp2_with fail
   refine ⟨⟨k+1,c++t,by omega,by go_num,by rw [aQ],by rw [RI];omega,K ?_,a3⟩,by simp [Y9];omega⟩
   rw [HS.out,um l k A,HT.out];simp [Sq]
  have a7:k=l.length:=by omega
  subst a7;have k4:wr.cell? ⟨w.heap.size,4,N⟩=S (T (bs d)):=R.out wr U.out 4;go_wp2_with fail
  have R0:Y6 (w.heap.size+1) o wr:=U.out;have z:H (∀f:QI,Y6 (w.heap.size+1) o f->(Y6 (w.heap.size+1) o f/\f.cell? ⟨w.heap.size,4,N⟩=S (T (bs d)))):=K (λf r=>⟨r,R.out f r 4⟩);have q1:¬9223372036854775807 < c.length+2:=by omega
  have q2:¬9223372036854775807 < c.length+2+d.length:=by omega
  have q3:¬9223372036854775807 < c.length+p5.length:=by omega
  have q4:¬9223372036854775807 < c.length+p5.length+d.length:=by omega
  go_region_held3 (λf=>Y6 (w.heap.size+1) o f/\f.cell? ⟨w.heap.size,4,N⟩=S (T (bs d)))
   (first | exact z.out _ B5 | exact z.out _ R0.drew | exact z.out _ R0 | exact z.out _ B5.drew)
   (first
    | (go_at_call_of 77 (I J (d.length:Int));refine (c5.out _).mono ?_;rintro e w5 ⟨rfl,a2⟩;have B5:=iI s R0.drew a2))
  have a4:=K (V.out.trans (B5.mono (by omega)));clear a2 B5 R0 k3 k4 q1 q2 q3 q4;go_wp2_with fail
  go_ret;refine ⟨DK ?_,a4.out⟩;rw [aQ,aQ,HP.out,HS.out,a5.out,QZ];simp [Sq]
def Gy:Obj->Option Za
 | .cells _ t _=>S t
 | _=>N
structure aE(ts:List Za)(w w':QI):Prop where
 size:w.heap.size<=w'.heap.size
 block:∀(b:Nat) (o:Obj),w.heap[b]? =S o->(∀t∈ts,Gy o≠S t)->w'.heap[b]? =S o
 still:df w w'
theorem aE.refl(ts:List Za)(w:QI):aE ts w w:=⟨QR _,λ_ _ h _=>h,df.refl w⟩
theorem aE.trans{ts:List Za}{a b c:QI}(h:aE ts a b)(d:aE ts b c):aE ts a c:=⟨Rn h.1 d.1,λk o e n=>d.2 k o (h.2 k o e n) n,h.3.trans d.3⟩
theorem aE.mono{ts us:List Za}{a b:QI}(h:aE ts a b)(c:∀t∈ts,t∈us):aE us a b:=⟨h.1,λk o e n=>h.2 k o e (λt d=>n t (c t d)),h.3⟩
theorem aE.below{ts:List Za}{a b:QI}(h:Y6 a.heap.size a b):aE ts a b:=⟨h.size,λk o e _=>(h.block k (by
 rcases Tp k a.heap.size with c | c
 .exact c
 rw [TG c] at e;cases e)).trans e,df.xF h⟩
theorem aE.drewN{c:List Za}{a b:QI}(h:aE c a b)(n:Nat):aE c a (b.drewN n):=⟨by simpa using h.1,λk o e m=>by simpa using h.2 k o e m,h.3.trans (mj n b)⟩
theorem aE.alloc{ts:List Za}{a b:QI}(h:aE ts a b)(o:Obj):aE ts a (b.alloc o):=h.trans (aE.below ((QQ _ _).alloc (QR _) o))
theorem aE.same{g:List Za}{a b c:QI}{k:Nat}{A:Array QJ}{t:Za}{z:Nat×Nat}(h:aE g a b)(i:b.heap[k]? =S (YU A t z))(l:t∈g)(f:aA k b c):aE g a c:=by
 refine h.trans ⟨by rw [f.1];exact QR _,λj o e n=>?_,f.3⟩
 rcases Nat.decEq j k with d | rfl
 .rw [f.2 j d];exact e
 rw [i] at e;injection e with e;subst e;exact absurd rfl (n t l)
theorem aE.grown{i:List Za}{a b c:QI}{d:Option Nat}(h:aE i a b)(f:b.grownBy c d)(r:∀k,d=S k->∃A t z,b.heap[k]? =S (YU A t z)/\t∈i):aE i a c:=by
 refine h.trans ⟨f.size,λj o e n=>?_,f.os,f.tape,f.output⟩
 have p:j < b.heap.size:=by
  rcases Tp j b.heap.size with g | g
  .exact g
  rw [TG g] at e;cases e
 by_cases l:d=S j
 .obtain ⟨A,t,z,m,q⟩:=r j l;rw [m] at e;injection e with e;subst e;exact absurd rfl (n t q)
 rw [f.block j p (λk=>l k.symm)];exact e
theorem aE.xS{i:List Za}{a b c:QI}{f:Option Nat}(h:aE i a b)(d:b.grownBy c f)(m:∀k,f=S k->a.heap.size<=k):aE i a c:=by
 refine ⟨Rn h.1 d.size,λj o e n=>?_,h.3.trans ⟨d.os,d.tape,d.output⟩⟩
 have l:j < a.heap.size:=by
  rcases Tp j a.heap.size with g | g
  .exact g
  rw [TG g] at e;cases e
 rw [d.block j (Nat.lt_of_lt_of_le l h.1) (λk=>by have:=m j k.symm;omega)];exact h.2 j o e n
theorem Rd.grown{w e:QI}{b:Nat}{l:QF}{a:Option Nat}(h:Rd w b l)(g:w.grownBy e a)(d:S b≠a):Rd e b l:=by
 have f:b < w.heap.size:=by
  rcases Tp b w.heap.size with c | c
  .exact c
  unfold Rd at h;rw [TG c] at h;cases h
 unfold Rd at h ⊢;rw [g.block b f d];exact h
theorem Rd.alloc{w:QI}{b:Nat}{l:QF}(h:Rd w b l)(o:Obj):Rd (w.alloc o) b l:=by
 have c:b < w.heap.size:=by
  rcases Tp b w.heap.size with a | a
  .exact a
  unfold Rd at h;rw [TG a] at h;cases h
 unfold Rd at h ⊢;rw [((QQ w.heap.size w).alloc (QR _) o).block b c];exact h
theorem aE.cells{c:List Za}{a b:QI}(h:aE c a b){k:Nat}{A:Array QJ}{t:Za}{z:Nat×Nat}(d:a.heap[k]? =S (YU A t z))(f:t ∉ c):b.heap[k]? =S (YU A t z):=
 h.2 k _ d (λu g e=>by simp only [Gy,U4] at e;exact f (e ▸ g))
theorem mO:(prog.info? 3).map (λi=>(i.zero,i.size,i.bytes))=S (S (I J 0),1,8):=by kernel_rfl
def ig(n:Nat)(l:QF):List Nat:=(List.range n).map λi=>be ((l.drop i).take 1)
theorem qA(n:Nat)(l:QF):(ig n l).length=n:=by simp [ig]
theorem Fw(n:Nat)(l:QF):ig (n+1) l=ig n l++[be ((l.drop n).take 1)]:=by
 simp [ig,Ui]
theorem zz(b:Nat)(l:QF)(w:QI)(h:Rd w b l)(hl:l.length<=Y7)(a5:b < w.heap.size):Y8 Ys 187 #[YV (S ⟨b,0,N⟩)] w λe p=>∃v,e=YX (YY #[I J (be (l.take 4)),v])/\
   p.ownsRow w.heap.size 3 1 v (be ((l.drop 4).take 1)) (bc (ig (be ((l.drop 4).take 1)) (l.drop 5)))/\Rd p b ((l.drop 5).drop (be ((l.drop 4).take 1)))/\aE [201] w p/\Y6 b w p:=by
 obtain ⟨i0,hi,a2,a3,a4⟩:=info_parts mO;have f:=dr b 4 l w h hl (by decide);have y:(l.drop 4).length<=Y7:=by rw [Rq];omega
 obtain ⟨z,G⟩:=QE (l.drop 4);have e5:l.drop 5=z.drop 1:=by rw [<-G,SX]
 rw [e5];rw [G] at f y ⊢;obtain ⟨c,hI⟩:=QE (be (l.take 4));rw [hI] at f ⊢;have m:=λp (h':Rd p b z)=>dr b 1 z p h' y (by decide);have hN:=lg z;have a1:(z.drop 1).length<=Y7:=by rw [Rq];omega
 obtain ⟨d,Y⟩:=QE (be (z.take 1));obtain ⟨r,t⟩:=QE (z.drop 1);rw [Y] at hN;rw [t] at a1;rw [Y,t] at m ⊢;have a:=K h;have C:=K m;clear h G e5 hI Y t m hl y;go_enter func187,ntmps187;go_wp2_with fail
 refine f.mono ?_;rintro e w1 ⟨rfl,h1,Z⟩;have U:=K h1;have T1:H (aE [201] w w1):=K ((aE.refl _ w).same a.out (by simp) Z);have B1:H (Y6 b w w1):=K (Z.below (QR _));clear f h1 Z;go_wp2_with fail
 refine (C.out _ U.out).mono ?_;rintro e w2 ⟨rfl,M,s⟩;have A:=K M;have D:H (aE [201] w w2):=K (T1.out.same U.out (by simp) s);have B:H (Y6 b w w2):=K (B1.out.trans (s.below (QR _)));clear M s U T1 C a B1;go_wp2_with fail
 go_loopw [6,7] (λv i p=>∃k:Nat,k<=d/\i=I J k/\H (p.ownsRow w.heap.size 3 1 v k (bc (ig k r)))/\H (Rd p b (r.drop k))/\H (aE [201] w p)/\H (Y6 b w p)) (λ_ i _=>d - (Y9 i).toNat)
 case atStart=>exact ⟨0,QS _,rfl,K (World.ownsRow_nil _ _ _ _),A,D,B⟩
 case round=>
  clear A D B;obtain ⟨k,P,rfl,HW,A,D,B⟩:=hrel
  by_cases a6:k < d
  .have hd:(r.drop k).length<=Y7:=by rw [Rq];omega
   have f:=dr b 1 (r.drop k) wr A.out hd (by decide);obtain ⟨x,hx⟩:=QE (be ((r.drop k).take 1));have er:(r.drop k).drop 1=r.drop (k+1):=by rw [SX]
   rw [hx,er] at f;have V:=K hx;have HC:=K f;clear f hx er hd;go_wp2_with fail
   refine HC.out.mono ?_;rintro e R ⟨rfl,M,s⟩;have H3:=K M;have E:H (aE [201] w R):=K (D.out.same A.out (by simp) s);have B3:H (Y6 b w R):=K (B.out.trans (s.below (QR _)))
   have o:R.ownsRow w.heap.size 3 1 u6 k (bc (ig k r)):=by
    have Q:=HW.out;refine ⟨Q.1,?_⟩
    rcases Q.2 with Q | ⟨g,W,X,e1,e2,e3,G⟩
    .exact .inl Q
    exact .inr ⟨g,W,X,e1,e2,(s.2 g (by omega)).trans e3,G⟩
   clear M s HC
   go_wp2_with (first
    | (at_builtin;refine wpList_append_own _ rfl _ _ 33 rfl w.heap.size 3 i0 (I J 0) 1 8 underlying33 hi a2 a3 a4 rfl (by decide) _ _ _ rfl (o.alloc _) ⟨R.heap.size,0,N⟩ 1 1 [I J (x:Int)] rfl rfl ?c1 ?c2 ?c3 ?c4 ?c5 ?_)
    | fail)
   case c1=>
    intro j u O
    match j,O with
    | 0,O=>
     simp only [List.getElem?_cons_zero,U4] at O;subst O;simp [Addr.add]
   case c2=>intro u hu;simp at hu;subst hu;rfl
   case c3=>unfold maxLen;omega
   case c4=>omega
   case c5=>have:=E.out.1;simp;omega
   intro v' w4 q n _;have HO:=K q;have T4:H (aE [201] w w4):=K ((E.out.alloc _).xS n (λk P=>(o.lt k P).1));have B4:H (Y6 b w w4):=K ((B3.out.alloc (by have:=E.out.1;omega) _).grown n (by have:=E.out.1;simp;omega) (λk P=>by have:=(o.lt k P).1;omega));have H4:H (Rd w4 b (r.drop (k+1))):=K ((H3.out.alloc _).grown n (λe=>by have:=(o.lt b e.symm).1;omega));clear q n o E H3;go_wp2_with fail
   refine ⟨⟨k+1,by omega,by go_num,K ?_,H4,T4,B4⟩,by simp [Y9];omega⟩
   rw [Fw,V.out];have:=HO.out;simpa [bc] using this
  have a0:k=d:=by omega
  subst a0;go_wp2_with fail
  go_ret2
  exact ⟨u6,rfl,HW.out,A.out,D.out,B.out⟩
structure fZ where
 m:aX
 out:List Bool
structure aa where
 items:List fZ
 time:Nat
def fO(l:List Bool):List QJ:=l.map YW
def cE(x:fZ×QJ×Nat):List QJ:=[I J x.1.m.id,I J x.1.m.time,T (bs x.1.m.xk),x.2.1,T (bs x.1.m.body),L (S ⟨x.2.2,0,N⟩) x.1.out.length x.1.out.length]
def dI(l:List (fZ×QJ×Nat)):List QJ:=l.flatMap cE
theorem Bf(l:List (fZ×QJ×Nat))(x:fZ×QJ×Nat):dI (l++[x])=dI l++cE x:=by
 simp [dI]
theorem mh(l:List (fZ×QJ×Nat))(k i:Nat)(h:k < l.length)(b:i < 6):(dI l)[k * 6+i]? =(cE l[k])[i]? :=by
 induction l generalizing k with
 | nil=>simp at h
 | cons x l ih=>
  show (cE x++dI l)[k * 6+i]? =_;have a:(cE x).length=6:=rfl
  cases k with
  | zero=>rw [List.getElem?_append_left (by omega)];simp
  | succ k=>
   rw [List.getElem?_append_right (by omega),a,show (k+1) * 6+i - 6=k * 6+i by omega,ih k (by simpa using h)]
   rfl
def og(base:Nat)(w:QI)(x:fZ×QJ×Nat):Prop:=
 w.ownsRow base 9 1 x.2.1 x.1.m.xd.length (ah x.1.m.xd)/\base<=x.2.2/\w.heap[x.2.2]? =S (YU (fO x.1.out).toArray 4 (0,0))/\x.1.out.length=x.1.m.xd.length/\1<=x.1.m.xd.length/\dJ x.1.m
def bz(base:Nat)(w:QI)(p:Nat)(S:aa):Prop:=
 ∃(vL:QJ) (l:List (fZ×QJ×Nat)),l.map (·.1)=S.items/\base<=p/\w.heap[p]? =some (YU #[vL,I J S.time] 129 (0,0))/\w.ownsRow base 147 6 vL l.length (dI l)/\(l.map (·.2.2)).Nodup/\∀x∈l,og base w x
theorem KD:(prog.info? 147).map (λi=>(i.zero,i.size,i.bytes))=S (S (YZ #[I J 0,I J 0,T ⟨#[]⟩,L N 0 0,T ⟨#[]⟩,L N 0 0]),6,96):=by kernel_rfl
theorem KC:(prog.info? 4).map (λi=>(i.zero,i.size,i.bytes))=S (S (YW F),1,1):=by kernel_rfl
theorem PX{a:QI}{s:Nat}(h:a.heap.size=s+1)(o b:Obj):((a.alloc o).alloc b).drew.heap[s+1+1]? =S b:=by
 have:=Q0 (a.alloc o) b;rw [show (a.alloc o).heap.size=s+1+1 by simp [h]] at this
 exact this
theorem aV{ts:List Za}{w f:QI}{a d n:Nat}{e:Za}{v:QJ}{i:List QJ}(p:aE ts w f)(o:e ∉ ts)(h:w.ownsRow a e d v n i):f.ownsRow a e d v n i:=by
 refine ⟨h.1,?_⟩
 rcases h.2 with h | ⟨g,b,c,j,k,l,m⟩
 .exact .inl h
 exact .inr ⟨g,b,c,j,k,p.cells l o,m⟩
theorem og.touch{ts:List Za}{w c:QI}{a:Nat}{x:fZ×QJ×Nat}(b:aE ts w c)(d:9 ∉ ts)(e:4 ∉ ts)(h:og a w x):og a c x:=
 ⟨aV b d h.1,h.2.1,b.cells h.2.2.1 e,h.2.2.2⟩
theorem dq{w:QI}{b:Nat}{o:Obj}(h:w.heap[b]? =S o):b < w.heap.size:=by
 rcases Tp b w.heap.size with a | a
 .exact a
 rw [TG a] at h;cases h
theorem Pj{a:QI}(o c:Obj){b:Nat}(h:b < a.heap.size):((a.alloc o).alloc c).drew.heap[b]? =a.heap[b]? :=
 (((QQ a.heap.size a).alloc (QR _) o).alloc (by simp) c).block b h
theorem LK{a:QI}(o b:Obj):((a.alloc o).alloc b).drew.heap[a.heap.size]? =S o:=by
 have c:(a.alloc o).heap[a.heap.size]? =S o:=Q0 a o;have d:=((QQ (a.heap.size+1) (a.alloc o)).alloc (by simp) b).block a.heap.size (by omega);exact d.trans c
theorem L2{d p u q Z s:Nat}{c:aa}{W f:Nat}{Y m:QF}{i:List QF}{A:QJ}{l:List (fZ×QJ×Nat)}{w G r:QI}{B:Array QJ}
  (a8:G.heap.size=w.heap.size+1) (E:Y6 w.heap.size w G) (hl:l.map (·.1)=c.items) (hp:d<=p) (hP:w.heap[p]? =S (YU #[A,I J c.time] 129 (0,0)))
  (y:w.ownsRow d 147 6 A l.length (dI l)) (a5:(l.map (·.2.2)).Nodup) (Q:∀x∈l,og d w x) (ap:A.ownBlock≠S p)
  (hv:w.ownsRow d 9 1 (L (S ⟨Z,0,N⟩) i.length s) i.length (ah i)) (hm:dJ ⟨W,f,Y,i,m⟩) (h1:1<=i.length)
  (h:((G.alloc (YU (madeCells #[YW F] i.length) 4)).alloc (YU B 147)).drew.grownBy r A.ownBlock)
  (v:r.ownsRow d 147 6 (L (S ⟨u,0,N⟩) (l.length+1) q) (l.length+1) (dI l++[I J W,I J f,T (bs Y),L (S ⟨Z,0,N⟩) i.length s,T (bs m),L (S ⟨w.heap.size+1,0,N⟩) i.length i.length])):
  bz d ((r.setCell ⟨p,0,N⟩ (L (S ⟨u,0,N⟩) (l.length+1) q)).setCell ⟨p,1,N⟩ (I J f)) p ⟨c.items++[⟨⟨W,f,Y,i,m⟩,List.replicate i.length F⟩],f⟩/\
   aE [129,147] w ((r.setCell ⟨p,0,N⟩ (L (S ⟨u,0,N⟩) (l.length+1) q)).setCell ⟨p,1,N⟩ (I J f))/\Y6 d w ((r.setCell ⟨p,0,N⟩ (L (S ⟨u,0,N⟩) (l.length+1) q)).setCell ⟨p,1,N⟩ (I J f)):=by
 have a7:=dq hP;have V:∀k,A.ownBlock=S k->d<=k/\k < w.heap.size:=y.lt
 have X:∀b,b < w.heap.size->S b≠A.ownBlock->r.heap[b]? =w.heap[b]? :=λb hb a6=>
  ((h.block b (by simp;omega) a6).trans (Pj _ _ (by omega))).trans (E.block b hb)
 have C:r.heap[p]? =S (YU #[A,I J c.time] 129 (0,0)):=(X p a7 (Ne.symm ap)).trans hP
 have a3:aE [129,147] w r:=by
  refine ⟨by have:=h.size;simp at this;omega,λb o e n=>?_,(df.xF E).trans ((show df G _ from ⟨rfl,rfl,rfl⟩).trans ⟨h.os,h.tape,h.output⟩)⟩
  by_cases U:A.ownBlock=S b
  .exfalso
   rcases y.2 with ⟨M,_⟩ | ⟨g,cp,t,M,_,hg,_⟩
   .subst M;cases U
   subst M;injection U with U;subst U;rw [hg] at e;injection e with e;subst e;exact n 147 (by simp) rfl
  exact (X b (dq e) (λk=>U k.symm)).trans e
 have a4:d<=w.heap.size:=by omega
 have a0:Y6 d w r:=by
  have h0:Y6 d w ((G.alloc (YU (madeCells #[YW F] i.length) 4)).alloc (YU B 147)).drew:=
   ((((E.mono a4).alloc (by omega) _).alloc (by simp;omega) _).drew)
  exact h0.grown h (by simp;omega) (λk hk=>(V k hk).1)
 obtain ⟨t,j⟩:∃t,r.heap[u]? =S (YU t 147 (0,0)):=by
  rcases v.2 with ⟨e,_⟩ | ⟨g,cp,t,e,_,hg,_⟩
  .cases e
  injection e with e _ _;injection e with e;injection e with e _;subst e;exact ⟨t,hg⟩
 have P:u≠p:=by
  intro e;subst e;rw [C] at j;injection j with j;injection j with _ j _;exact absurd j (by decide)
 have a1:=Ro r p 0 _ _ (L (S ⟨u,0,N⟩) (l.length+1) q) C;have a2:=Ro _ p 1 _ _ (I J f) a1;have O:aA p r ((r.setCell ⟨p,0,N⟩ (L (S ⟨u,0,N⟩) (l.length+1) q)).setCell ⟨p,1,N⟩ (I J f)):=((aA.refl p r).setCell _).setCell _;have D:=a3.same C (by simp) O;refine ⟨⟨_,l++[(⟨⟨W,f,Y,i,m⟩,List.replicate i.length F⟩,L (S ⟨Z,0,N⟩) i.length s,w.heap.size+1)],?_,hp,a2,?_,?_,?_⟩,D,(a0.setCell hp _).setCell hp _⟩
 .rw [Sh,hl];rfl
 .rw [RI,Bf]
  have ho:r.ownsRow d 147 6 (L (S ⟨u,0,N⟩) (l.length+1) q) (l.length+1) (dI l++cE (⟨⟨W,f,Y,i,m⟩,List.replicate i.length F⟩,L (S ⟨Z,0,N⟩) i.length s,w.heap.size+1)):=by
   simpa [cE] using v
  exact ownsRow_setCell_other (ownsRow_setCell_other ho (λe=>by injection e with e;exact P e) _) (λe=>by injection e with e;exact P e) _
 .rw [Sh,List.nodup_append];refine ⟨a5,by simp,λa ha b hb=>?_⟩
  obtain ⟨x,z,rfl⟩:=Rl.1 ha;simp only [RE,List.map_nil,Ry] at hb;subst hb;have:=dq (Q x z).2.2.1;omega
 intro x z
 rcases List.mem_append.1 z with z | z
 .exact (Q x z).touch D (by decide) (by decide)
 simp only [Ry] at z;subst z;refine ⟨aV D (by decide) hv,by show d<=w.heap.size+1;omega,?_,by simp,h1,hm⟩
 show (_:QI).heap[w.heap.size+1]? =_;rw [O.2 (w.heap.size+1) (by omega),h.block (w.heap.size+1) (by simp;omega) (λe=>by have:=(V _ e.symm).2;omega), <-a8,LK];have R:=Fj (YW F) rfl i.length;rw [Nat.mul_one] at R
 have M:(madeCells #[YW F] i.length)=(fO (List.replicate i.length F)).toArray:=by
  apply Array.toList_inj.1;refine (show (madeCells #[YW F] i.length).toList=_ from R).trans ?_;simp [fO]
 rw [M]
def th(l:QF):QF×QF:=((l.drop 1).take (be (l.take 1)),(l.drop 1).drop (be (l.take 1)))
def kQ:Nat->QF->List QF×QF
 | 0,l=>([],l)
 | n+1,l=>((th l).1::(kQ n (th l).2).1,(kQ n (th l).2).2)
theorem Cs:∀(n:Nat) (l:QF),kQ (n+1) l=((kQ n l).1++[(th (kQ n l).2).1],(th (kQ n l).2).2)
 | 0,l=>rfl
 | n+1,l=>by
  rw [kQ,Cs n (th l).2];rfl
theorem sr:∀(n:Nat) (l:QF),(kQ n l).1.length=n
 | 0,_=>rfl
 | n+1,l=>by rw [kQ,RQ,sr n]
theorem Jk(l:QF):(th l).1.length < 256:=by
 have h:=lg l;unfold th;rw [Sm];omega
theorem D3:∀(n:Nat) (l:QF),∀t∈(kQ n l).1,t.length < 256
 | 0,_,t,h=>by cases h
 | n+1,l,t,h=>by
  rw [kQ] at h
  rcases Rf.1 h with rfl | h
  .exact Jk l
  exact D3 n _ t h
def gx(l:QF):aX:=
 ⟨be (l.take 4),be ((l.drop 4).take 4),(th (l.drop 8)).1,(kQ (be ((th (l.drop 8)).2.take 1)) ((th (l.drop 8)).2.drop 1)).1,
  ((kQ (be ((th (l.drop 8)).2.take 1)) ((th (l.drop 8)).2.drop 1)).2.drop 2).take (be ((kQ (be ((th (l.drop 8)).2.take 1)) ((th (l.drop 8)).2.drop 1)).2.take 2))⟩
def gK(k:Nat)(l:QF):Option (Nat×QF):=if k<=l.length then S (be (l.take k),l.drop k) else N
def bj(k:Nat)(l:QF):Option (QF×QF):=if k<=l.length then S (l.take k,l.drop k) else N
def Al(k:Nat)(l:QF):Option (QF×QF):=(gK k l).bind λa=>bj a.1 a.2
def Bo:Nat->QF->Option (List QF×QF)
 | 0,l=>S ([],l)
 | n+1,l=>(Al 1 l).bind λa=>(Bo n a.2).bind λr=>S (a.1::r.1,r.2)
def pU:Nat->QF->Option (List Nat×QF)
 | 0,l=>S ([],l)
 | n+1,l=>(gK 1 l).bind λa=>(pU n a.2).bind λr=>S (a.1::r.1,r.2)
def oO(l:QF):Option aX:=
 (gK 4 l).bind λa=>(gK 4 a.2).bind λb=>(Al 1 b.2).bind λf=>(gK 1 f.2).bind λn=>(Bo n.1 n.2).bind λt=>(Al 2 t.2).bind λd=>if d.2=[] then S ⟨a.1,b.1,f.1,t.1,d.1⟩ else N
def tK(l:QF):Option (Nat×List Nat):=
 (gK 4 l).bind λa=>(gK 1 a.2).bind λn=>(pU n.1 n.2).bind λt=>if t.2=[] then S (a.1,t.1) else N
theorem sb{α β:Type}(a:α)(f:α->Option β):(S a).bind f=f a:=rfl
theorem lQ{k n:Nat}(r:QF)(h:n < 256 ^ k):gK k (aG k n++r)=S (n,r):=by
 have a:=aY k n;unfold gK;rw [if_pos (by rw [RI];omega),List.take_append_of_le_length (by omega),List.drop_append_of_le_length (by omega),SQ (by omega),List.drop_eq_nil_of_le (by omega),nf,Nat.mod_eq_of_lt h];rfl
theorem GU(a r:QF):bj a.length (a++r)=S (a,r):=by
 unfold bj;rw [if_pos (by simp)];simp
theorem DY{k:Nat}(a r:QF)(h:a.length < 256 ^ k):Al k (aG k a.length++(a++r))=S (a,r):=by
 unfold Al;rw [lQ _ h];exact GU a r
theorem GD:∀(a:List QF) (r:QF),(∀t∈a,t.length < 256)->Bo a.length (fi a++r)=S (a,r)
 | [],r,_=>rfl
 | t::a,r,h=>by
  have b:t.length < 256 ^ 1:=h t (by simp);show Bo (a.length+1) ((j6 t++fi a)++r)=_;rw [Bo,j6,Sq,Sq,DY t _ b];show (Bo a.length (fi a++r)).bind _=_;rw [GD a r (λx c=>h x (by simp [c]))];rfl
theorem Ce:∀(a:List Nat) (r:QF),(∀x∈a,x < 256)->pU a.length (ja a++r)=S (a,r)
 | [],r,_=>rfl
 | x::a,r,h=>by
  have b:x < 256 ^ 1:=h x (by simp);show pU (a.length+1) ((aG 1 x++ja a)++r)=_;rw [pU,Sq,lQ _ b];show (pU a.length (ja a++r)).bind _=_;rw [Ce a r (λy c=>h y (by simp [c]))];rfl
def vq(m:aX):Prop:=m.id < 256 ^ 4/\m.time < 256 ^ 4/\m.xk.length < 256/\m.xd.length < 256/\(∀t∈m.xd,t.length < 256)/\m.body.length < 256 ^ 2
theorem BT{m:aX}(h:vq m){l:QF}(a:bT m=77::l):oO l=S m:=by
 obtain ⟨b,c,d,e,f,g⟩:=h;unfold bT at a;injection a with _ a;subst a;unfold oO;rw [lQ _ b];simp only [sb];rw [lQ _ c];simp only [sb];rw [j6,Sq,DY m.xk _ d];simp only [sb];rw [lQ _ (show m.xd.length < 256 ^ 1 from e)];simp only [sb];rw [GD m.xd _ f];simp only [sb];have:=DY (k:=2) m.body [] g;rw [Sj] at this;rw [this];rfl
theorem KU{b:Nat}{a:List Nat}(c:b < 256 ^ 4)(d:a.length < 256)(e:∀x∈a,x < 256):tK (cG b a)=S (b,a):=by
 unfold tK cG;rw [lQ _ c];simp only [sb];rw [lQ _ (show a.length < 256 ^ 1 from d)];simp only [sb];have:=Ce a [] e;rw [Sj] at this;rw [this];rfl
theorem lP{k n:Nat}{l r:QF}(h:gK k l=S (n,r)):l=aG k n++r/\n=be (l.take k)/\r=l.drop k/\n < 256 ^ k:=by
 unfold gK at h
 split at h
 .rename_i c
  injection h with h;injection h with h1 h2;have a:(l.take k).length=k:=by rw [Sm];omega
  have e:=vP (l.take k);have b:=Bs (l.take k);rw [a] at e b;subst h1 h2;exact ⟨by rw [e,Rp],rfl,rfl,b⟩
 cases h
theorem kg{k:Nat}{l a r:QF}(h:bj k l=S (a,r)):l=a++r/\a=l.take k/\r=l.drop k/\a.length=k:=by
 unfold bj at h
 split at h
 .rename_i b
  injection h with h;injection h with h1 h2;subst h1 h2;exact ⟨by rw [Rp],rfl,rfl,by rw [Sm];omega⟩
 cases h
theorem cd{α β:Type}{o:Option α}{f:α->Option β}{b:β}(h:o.bind f=S b):∃a,o=S a/\f a=S b:=by
 cases o with
 | none=>cases h
 | some a=>exact ⟨a,rfl,h⟩
theorem vh{k:Nat}{l a r:QF}(h:Al k l=S (a,r)):l=aG k a.length++(a++r)/\a=(l.drop k).take (be (l.take k))/\r=(l.drop k).drop (be (l.take k))/\a.length < 256 ^ k:=by
 obtain ⟨⟨n,p⟩,m,o⟩:=cd h;obtain ⟨i,c,d,j⟩:=lP m;obtain ⟨e,f,g,b⟩:=kg o;simp only at e f g b;refine ⟨by rw [b, <-e];exact i,?_,?_,by rw [b];exact j⟩
 .rw [<-d, <-c];exact f
 rw [<-d, <-c];exact g
theorem GC:∀{n:Nat} {l:QF} {b:List QF} {r:QF},Bo n l=S (b,r)->l=fi b++r/\kQ n l=(b,r)
 | 0,l,b,r,h=>by
  injection h with h;injection h with c d;subst c d;exact ⟨rfl,rfl⟩
 | n+1,l,b,r,h=>by
  obtain ⟨⟨a,q⟩,c,d⟩:=cd h;obtain ⟨⟨f,s⟩,o,e⟩:=cd d;injection e with e;injection e with h5 h6;subst h5 h6;obtain ⟨j,k,m,_⟩:=vh c;obtain ⟨g,i⟩:=GC o;simp only at g i;have p:th l=(a,q):=by unfold th;rw [<-k, <-m]
  refine ⟨?_,by rw [kQ,p,i]⟩
  show l=(j6 a++fi f)++s;rw [j6,Sq,Sq, <-g];exact j
theorem KW{l:QF}{m:aX}(h:oO l=S m):bT m=77::l/\gx l=m:=by
 obtain ⟨⟨V,W⟩,z,h⟩:=cd h;obtain ⟨⟨x,w⟩,A,h⟩:=cd h;obtain ⟨⟨U,P⟩,B,h⟩:=cd h;obtain ⟨⟨n,Q⟩,C,h⟩:=cd h;obtain ⟨⟨R,X⟩,D,h⟩:=cd h;obtain ⟨⟨k,Y⟩,E,h⟩:=cd h;obtain ⟨e,f,a,_⟩:=lP z;obtain ⟨g,i,j,_⟩:=lP A;obtain ⟨o,p,q,_⟩:=vh B;obtain ⟨r,s,t,_⟩:=lP C;obtain ⟨u,b⟩:=GC D;obtain ⟨c,v,y,_⟩:=vh E;simp only at e f a g i j o p q r s t u b c v y h
 split at h
 .rename_i d
  injection h with h;subst h d;have G:n=R.length:=by have:=sr n Q;rw [b] at this;exact this.symm
  rw [Sj] at c;have M:l.drop 8=w:=by rw [j,a,SX]
  have O:th w=(U,P):=by unfold th;rw [<-p, <-q]
  refine ⟨?_,?_⟩
  .unfold bT;simp only;rw [e,g,o,r,u,c, <-G];simp only [j6,Sq]
  unfold gx;rw [M,O];simp only;rw [<-s, <-t,b];simp only;rw [<-f, <-a, <-i, <-v]
 cases h
theorem Cd:∀{n:Nat} {l:QF} {b:List Nat} {r:QF},pU n l=S (b,r)->l=ja b++r/\b=ig n l/\b.length=n
 | 0,l,b,r,h=>by
  injection h with h;injection h with c d;subst c d;exact ⟨rfl,rfl,rfl⟩
 | n+1,l,b,r,h=>by
  obtain ⟨⟨a,t⟩,c,d⟩:=cd h;obtain ⟨⟨f,s⟩,q,e⟩:=cd d;injection e with e;injection e with h5 h6;subst h5 h6;obtain ⟨g,j,k,_⟩:=lP c;obtain ⟨m,o,p⟩:=Cd q;simp only at g j k m o p;refine ⟨?_,?_,by rw [RQ,p]⟩
  .show l=(aG 1 a++ja f)++s;rw [Sq, <-m];exact g
  rw [o,j,k];simp only [ig,List.range_succ_eq_map,RE,List.map_map,SY]
  congr 1
  apply List.map_congr_left;intro i _;simp
theorem KT{l:QF}{i:Nat}{c:List Nat}(h:tK l=S (i,c)):l=cG i c/\i=be (l.take 4)/\c=ig (be ((l.drop 4).take 1)) (l.drop 5)/\c.length=be ((l.drop 4).take 1):=by
 obtain ⟨⟨a,w⟩,q,h⟩:=cd h;obtain ⟨⟨n,v⟩,r,h⟩:=cd h;obtain ⟨⟨t,x⟩,s,h⟩:=cd h;obtain ⟨j,k,b,_⟩:=lP q;obtain ⟨m,d,o,_⟩:=lP r;obtain ⟨e,p,f⟩:=Cd s;simp only at j k b m d o e p f h
 split at h
 .rename_i g
  injection h with h;injection h with h4 h5;subst h4 h5 g;rw [Sj] at e;have u:l.drop 5=v:=by rw [o,b,SX]
  refine ⟨?_,k,?_,?_⟩
  .unfold cG;rw [f, <-e, <-m];exact j
  .rw [<-b, <-d,u];exact p
  rw [<-b, <-d];exact f
 cases h
theorem Ix(l:QF):vq (gx l):=by
 have a:∀x:QF,be (x.take 4) < 256 ^ 4:=λx=>by
  have:=jr (l:=x.take 4) (by rw [Sm];omega);have d:256 ^ 4=4294967296:=by decide
  omega
 refine ⟨a _,a _,Jk _,?_,D3 _ _,?_⟩
 .unfold gx;simp only;rw [sr];exact lg _
 unfold gx;simp only;rw [Sm]
 generalize (kQ (be ((th (l.drop 8)).2.take 1)) ((th (l.drop 8)).2.drop 1)).2=x
 have b:=Bs (x.take 2);have c:256 ^ (x.take 2).length<=256 ^ 2:=S8 (by decide) (by rw [Sm];omega);omega
theorem KZ(l:QF):oO l=if bT (gx l)=77::l then S (gx l) else N:=by
 by_cases h:bT (gx l)=77::l
 .rw [if_pos h];exact BT (Ix l) h
 rw [if_neg h]
 cases e:oO l with
 | none=>rfl
 | some m=>
  obtain ⟨a,b⟩:=KW e;subst b;exact absurd a h
theorem Cc(n:Nat)(l:QF):∀x∈ig n l,x < 256:=by
 intro x a;obtain ⟨i,_,rfl⟩:=Rl.1 a;exact lg _
theorem BS(l:QF):tK l=if cG (be (l.take 4)) (ig (be ((l.drop 4).take 1)) (l.drop 5))=l then S (be (l.take 4),ig (be ((l.drop 4).take 1)) (l.drop 5)) else N:=by
 by_cases h:cG (be (l.take 4)) (ig (be ((l.drop 4).take 1)) (l.drop 5))=l
 .rw [if_pos h]
  have d:be (l.take 4) < 256 ^ 4:=by
   have:=jr (l:=l.take 4) (by rw [Sm];omega);have a:256 ^ 4=4294967296:=by decide
   omega
  have:=KU d (by rw [qA];exact lg _) (Cc (be ((l.drop 4).take 1)) (l.drop 5));rw [h] at this;exact this
 rw [if_neg h]
 cases e:tK l with
 | none=>rfl
 | some x=>
  obtain ⟨f,g⟩:=x;obtain ⟨b,c,a,_⟩:=KT e;rw [<-c, <-a] at h;exact absurd b.symm h
def hJ(w:QI)(b:Nat)(o:Option QF):Prop:=
 match o with
 | some l=>w.heap[b]? =S (YU #[T (bs l),YW F] 166 (0,0))/\l.length<=Y7
 | none=>∃l:QF,w.heap[b]? =S (YU #[T (bs l),YW YT] 166 (0,0))
def ij(o:Option (QF×QF)):QF:=(o.map (·.1)).getD []
theorem jC(b k:Nat)(o:Option QF)(w:QI)(h:hJ w b o)(q:k<=Y7):Y8 Ys 94 #[YV (S ⟨b,0,N⟩),I J k] w λe i=>e=YX (T (bs (ij (o.bind (bj k)))))/\hJ i b ((o.bind (bj k)).map (·.2))/\aA b w i:=by
 unfold maxLen at q
 cases o with
 | none=>
  obtain ⟨l,a⟩:=h;have j:w.cell? ⟨b,0,N⟩=S (T (bs l)):=Q3 a _;have m:w.cell? ⟨b,1,N⟩=S (YW YT):=Q3 a _;have n:w.frozen? ⟨b,1,N⟩=F:=RJ a 1;have d:=K a;clear a;go_enter func94,Yq;go_wp2_with fail
  go_ret;exact ⟨rfl,⟨l,Ro w b 1 _ _ (YW YT) d.out⟩,(aA.refl b w).setCell _⟩
 | some l=>
  obtain ⟨a,g⟩:=h;unfold maxLen at g;have j:w.cell? ⟨b,0,N⟩=S (T (bs l)):=Q3 a _;have m:w.cell? ⟨b,1,N⟩=S (YW F):=Q3 a _;have r:w.frozen? ⟨b,0,N⟩=F:=RJ a 0;have n:w.frozen? ⟨b,1,N⟩=F:=RJ a 1;have s:=aj l;have d:=K a;clear a
  by_cases c:k<=l.length
  .have p:decide ((l.length:Int) < (k:Int))=F:=by simp;omega
   have f:decide (l.length < k)=F:=by simp;omega
   go_enter func94,Yq;go_wp2_with fail
   simp only [bR,SY,QZ];have e:(S l).bind (bj k)=S (l.take k,l.drop k):=by show bj k l=_;unfold bj;rw [if_pos c]
   go_ret;rw [e];exact ⟨rfl,⟨Ro w b 0 _ _ (T (bs (l.drop k))) d.out,by rw [Rq];unfold maxLen;omega⟩,(aA.refl b w).setCell _⟩
  have p:decide ((l.length:Int) < (k:Int))=YT:=by simp;omega
  have f:decide (l.length < k)=YT:=by simp;omega
  go_enter func94,Yq;go_wp2_with fail
  have e:(S l).bind (bj k)=N:=by show bj k l=_;unfold bj;rw [if_neg c]
  go_ret;rw [e];exact ⟨rfl,⟨l,Ro w b 1 _ _ (YW YT) d.out⟩,(aA.refl b w).setCell _⟩
theorem Pd{a x:Nat}(b:a < 16777216)(c:x < 256):bits .or J (wrap64 ((a:Int) * 256)) (x:Int)=((256 * a+x:Nat):Int):=by
 rw [Ai _ (by omega),bits_join J 32 (by decide) Cz 8 _ _ (by omega) (by omega) (by omega) (by omega) (by omega) (by omega)];omega
theorem dQ(b k:Nat)(o:Option QF)(w:QI)(h:hJ w b o)(M:k<=4):Y8 Ys 93 #[YV (S ⟨b,0,N⟩),I J k] w λe z=>e=YX (I J (be (ij (o.bind (bj k)))))/\hJ z b ((o.bind (bj k)).map (·.2))/\aA b w z:=by
 have c:=jC b k o w h (by unfold maxLen;omega)
 have f:(ij (o.bind (bj k))).length<=4:=by
  cases e:o.bind (bj k) with
  | none=>simp [ij]
  | some x=>
   obtain ⟨l,p,d⟩:=cd e;obtain ⟨y,r⟩:=x;have:=(kg d).2.2.2;show y.length<=4;omega
 obtain ⟨t,u⟩:=QE (ij (o.bind (bj k)));obtain ⟨r,v⟩:=QE ((o.bind (bj k)).map (·.2));rw [u] at f;rw [u,v] at c ⊢;clear u v h;have O:=aj t;go_enter func93,ntmps93;go_wp2_with fail
 refine c.mono ?_;rintro e P ⟨rfl,p,d⟩;have A:=K p;have B:=K d;clear c p d;go_wp2_with fail
 go_loop [6,13] (λn i=>∃j a:Nat,j<=t.length/\i=I J j/\n=I J a/\H (a=be (t.take j))) (λ_ i=>t.length - (Y9 i).toNat)
 case atStart=>exact ⟨0,0,QS _,rfl,rfl,rfl⟩
 case round=>
  obtain ⟨j,a,G,rfl,rfl,m⟩:=hrel
  by_cases s:j < t.length
  .have g:j < (bs t).size:=by omega
   have C:H (a < 16777216):=K (by
    rw [m.out];have p:=Bs (t.take j);have d:256 ^ (t.take j).length<=256 ^ 3:=S8 (by decide) (by rw [Sm];omega);have E:256 ^ 3=16777216:=by decide
    omega)
   go_wp2_with fail
   refine ⟨⟨j+1,be (t.take (j+1)),by omega,by go_num,?_,rfl⟩,by simp [Y9];omega⟩
   refine congrArg (I J) ?_;rw [Js t j s, <-ot t j g, <-m.out];have D:=((bs t)[j]).toNat_lt;rw [Ai (((bs t)[j]).toNat:Int) (by omega)];exact Pd C.out D
  have q:j=t.length:=by omega
  subst q;rw [QZ] at m;go_wp2_with fail
  go_ret;exact ⟨congrArg (λx:Nat=>YX (I J (x:Int))) m.out,A.out,B.out⟩
theorem Qc(k:Nat)(o:Option QF):((o.bind (bj k)).map (·.2)).bind (bj (be (ij (o.bind (bj k)))))=o.bind (Al k):=by
 cases o with
 | none=>rfl
 | some l=>
  show ((bj k l).map (·.2)).bind (bj (be (ij (bj k l))))=Al k l;unfold Al gK bj
  by_cases h:k<=l.length
  .rw [if_pos h,if_pos h];rfl
  rw [if_neg h,if_neg h];rfl
theorem wY(k:Nat)(o:Option QF):(o.bind (bj k)).map (·.2)=(o.bind (gK k)).map (·.2)/\be (ij (o.bind (bj k)))=((o.bind (gK k)).map (·.1)).getD 0:=by
 cases o with
 | none=>exact ⟨rfl,rfl⟩
 | some l=>
  show (bj k l).map (·.2)=(gK k l).map (·.2)/\be (ij (bj k l))=((gK k l).map (·.1)).getD 0;unfold gK bj
  by_cases h:k<=l.length
  .rw [if_pos h,if_pos h];exact ⟨rfl,rfl⟩
  rw [if_neg h,if_neg h];exact ⟨rfl,rfl⟩
theorem ql(b k:Nat)(o:Option QF)(w:QI)(h:hJ w b o)(G:k<=4):Y8 Ys 151 #[YV (S ⟨b,0,N⟩),I J k] w λe j=>e=YX (T (bs (ij (o.bind (Al k)))))/\hJ j b ((o.bind (Al k)).map (·.2))/\aA b w j:=by
 have d:=dQ b k o w h G
 have z:be (ij (o.bind (bj k)))<=Y7:=by
  have g:(ij (o.bind (bj k))).length<=4:=by
   cases e:o.bind (bj k) with
   | none=>simp [ij]
   | some x=>
    obtain ⟨l,s,i⟩:=cd e;obtain ⟨y,r⟩:=x;have:=(kg i).2.2.2;show y.length<=4;omega
  have:=jr g;unfold maxLen;omega
 have c:=λj E=>jC b (be (ij (o.bind (bj k)))) ((o.bind (bj k)).map (·.2)) j E z;rw [Qc] at c;obtain ⟨a,n⟩:=QE (be (ij (o.bind (bj k))));obtain ⟨r,p⟩:=QE ((o.bind (bj k)).map (·.2));obtain ⟨t,q⟩:=QE (ij (o.bind (Al k)));obtain ⟨M,f⟩:=QE ((o.bind (Al k)).map (·.2));rw [n,p] at d;rw [n,p,q,f] at c;rw [q,f];have m:=K c;clear c z n p q f h;go_enter func151,ntmps151;go_wp2_with fail
 refine d.mono ?_;rintro e O ⟨rfl,s,i⟩;have A:=K s;have B:=K i;clear d s i;go_wp2_with fail
 refine (m.out _ A.out).mono ?_;rintro e P ⟨rfl,u,v⟩;have C:=K u;have D:=K (B.out.trans v);clear u v;go_wp2_with fail
 go_ret;exact ⟨rfl,C.out,D.out⟩
theorem wm(b:Nat)(o:Option QF)(w:QI)(h:hJ w b o):Y8 Ys 152 #[YV (S ⟨b,0,N⟩)] w λe f=>e=YX (YW (decide (o=S [])))/\w=f:=by
 cases o with
 | none=>
  obtain ⟨l,a⟩:=h;have c:w.cell? ⟨b,0,N⟩=S (T (bs l)):=Q3 a _;have d:w.cell? ⟨b,1,N⟩=S (YW YT):=Q3 a _;clear a;go_enter func152,ntmps152;go_wp2_with fail
  go_ret;exact ⟨b8 (by simp),rfl⟩
 | some l=>
  obtain ⟨a,_⟩:=h;have c:w.cell? ⟨b,0,N⟩=S (T (bs l)):=Q3 a _;have d:w.cell? ⟨b,1,N⟩=S (YW F):=Q3 a _;clear a;go_enter func152,ntmps152;go_wp2_with fail
  go_ret;exact ⟨b8 (by rw [Lib.toList_data,ao];cases l <;> simp),rfl⟩
def jw(l:QF):Option (QF×QF):=
 (gK 4 l).bind λa=>(gK 4 a.2).bind λb=>(bj a.1 b.2).bind λc=>if po c.1=b.1 then S c else N
def oe(o:Option (QF×QF)):QJ:=
 match o with
 | some c=>YY #[T (bs c.1),T (bs c.2),YW YT]
 | none=>YY #[T (bs []),T (bs []),YW F]
theorem OB{w:QI}{b:Nat}{o:Option QF}{l:QF}(h:hJ w b o)(e:o=S l):w.cell? ⟨b,0,N⟩=S (T (bs l))/\w.cell? ⟨b,1,N⟩=S (YW F):=by
 subst e;exact ⟨Q3 h.1 _,Q3 h.1 _⟩
theorem OA{w:QI}{b:Nat}{o:Option QF}(h:hJ w b o)(e:o=N):w.cell? ⟨b,1,N⟩=S (YW YT):=by
 subst e;obtain ⟨l,h⟩:=h;rw [Q3 h];rfl
theorem qG{w a c:QI}(b:aE [] w a)(d:aA w.heap.size a c):aE [] w c:=
 ⟨by rw [d.1];exact b.1,λk o e n=>by
  rw [d.2 k (by have:=dq e;omega)];exact b.2 k o e n,b.3.trans d.3⟩
theorem Kd(l:QF){m p s:Option QF}{n q:Nat}{C:QF}
  (h:((S l).bind (bj 4)).map (·.2)=m) (j:be (ij ((S l).bind (bj 4)))=n) (f:(m.bind (bj 4)).map (·.2)=p) (k:be (ij (m.bind (bj 4)))=q) (g:(p.bind (bj n)).map (·.2)=s) (o:ij (p.bind (bj n))=C):
  jw l=s.bind λr=>if po C=q then S (C,r) else N:=by
 obtain ⟨t,u⟩:=wY 4 (S l);rw [t] at h;rw [u] at j;obtain ⟨v,w⟩:=wY 4 m;rw [v] at f;rw [w] at k;have i:jw l=(gK 4 l).bind λa=>(gK 4 a.2).bind λb=>(bj a.1 b.2).bind λc=>if po c.1=b.1 then S c else N:=rfl;have A:(S l).bind (gK 4)=gK 4 l:=rfl;rw [A] at h j
 cases x:gK 4 l with
 | none=>
  rw [x] at h i;subst h f g;rw [i];rfl
 | some a=>
  rw [x] at h j i;subst h j;have B:((S a).map (·.2)).bind (gK 4)=gK 4 a.2:=rfl;rw [B] at f k;have d:jw l=(gK 4 a.2).bind λb=>(bj a.1 b.2).bind λc=>if po c.1=b.1 then S c else N:=i
  cases y:gK 4 a.2 with
  | none=>
   rw [y] at f d;subst f g;rw [d];rfl
  | some b=>
   rw [y] at f k d;subst f k;have D:((S b).map (·.2)).bind (bj (((S a).map (·.1)).getD 0))=bj a.1 b.2:=rfl;rw [D] at g o;have e:jw l=(bj a.1 b.2).bind λc=>if po c.1=b.1 then S c else N:=d
   cases z:bj a.1 b.2 with
   | none=>
    rw [z] at g e;subst g;rw [e];rfl
   | some c=>
    rw [z] at g o e;subst g o;rw [e];rfl
theorem IU(l:QF)(w:QI)(hl:l.length<=Y7):Y8 Ys 53 #[T (bs l)] w λe j=>e=YX (oe (jw l))/\aE [] w j:=by
 obtain ⟨M,c⟩:=QE (w.alloc (YU #[T (bs l),YW F] 166));have D:H (hJ M w.heap.size (S l)):=K ⟨by rw [<-c];exact Q0 w _,hl⟩
 have T0:H (aE [] w M):=K (by rw [<-c];exact (aE.refl _ w).alloc _);have E:=K c;clear c
 have O:∀o:Option QF,be (ij (o.bind (bj 4)))<=4294967295:=λo=>by
  have p:(ij (o.bind (bj 4))).length<=4:=by
   cases e:o.bind (bj 4) with
   | none=>simp [ij]
   | some x=>
    obtain ⟨l,b,a⟩:=cd e;obtain ⟨y,r⟩:=x;have:=(kg a).2.2.2;show y.length<=4;omega
  have:=jr p;omega
 obtain ⟨Y,P⟩:=QE (((S l).bind (bj 4)).map (·.2));obtain ⟨n,t⟩:=QE (be (ij ((S l).bind (bj 4))));obtain ⟨v,R⟩:=QE ((Y.bind (bj 4)).map (·.2));obtain ⟨k,u⟩:=QE (be (ij (Y.bind (bj 4))));obtain ⟨o3,U⟩:=QE ((v.bind (bj n)).map (·.2));obtain ⟨C,s⟩:=QE (ij (v.bind (bj n)));have q:=K (Kd l P t R u U s);have a1:n<=4294967295:=by rw [<-t];exact O _
 have a2:k<=4294967295:=by rw [<-u];exact O _
 have a0:C.length<=4294967295:=by
  rw [<-s]
  cases e:v.bind (bj n) with
  | none=>simp [ij]
  | some x=>
   obtain ⟨l,b,a⟩:=cd e;obtain ⟨y,r⟩:=x;have:=(kg a).2.2.2;show y.length<=_;omega
 have f:=dQ w.heap.size 4 (S l) M D.out (by decide);have g:=λj V=>dQ w.heap.size 4 Y j V (by decide);have i:=λj V=>jC w.heap.size n v j V (by unfold maxLen;omega);have d:=λj=>zF (bs C) j (by rw [aj];unfold maxLen;omega);rw [P,t] at f;rw [R,u] at g;rw [U,s] at i;rw [ao] at d;have W:po C<=4294967295:=by unfold po;omega
 obtain ⟨Q,hQ⟩:=QE (po C);rw [hQ] at d W q;have z:=K g;have A:=K i;have B:=K d;have sC:=aj C;clear P t R u U s g i d hQ O;go_enter func53,ntmps53;go_wp2_with fail
 rw [E.out];refine f.mono ?_;rintro e w1 ⟨rfl,b,a⟩;have F1:=K b;have T1:=K (qG T0.out a);clear f b a;go_wp2_with fail
 refine (z.out _ F1.out).mono ?_;rintro e w2 ⟨rfl,b,a⟩;have F2:=K b;have T2:=K (qG T1.out a);clear b a;go_wp2_with fail
 refine (A.out _ F2.out).mono ?_;rintro e w3 ⟨rfl,b,a⟩;have Z:=K b;have G:=K (qG T2.out a);clear b a
 cases o3 with
 | none=>
  have c1:=OA Z.out rfl;have m:H (oe (jw l)=YY #[T (bs []),T (bs []),YW F]):=K (by rw [q.out];rfl);go_wp2_with fail
  go_ret3
  exact ⟨by rw [m.out];rfl,G.out⟩
 | some r=>
  obtain ⟨c0,c1⟩:=OB Z.out rfl;go_wp2_with fail
  refine (B.out _).mono ?_;rintro e w4 ⟨rfl,rfl⟩;go_wp2_with fail
  .rename_i h
   have X:¬Q=k:=by simp at h;omega
   have m:H (oe (jw l)=YY #[T (bs []),T (bs []),YW F]):=K (by
    rw [q.out];show oe (if Q=k then S (C,r) else N)=_
    rw [if_neg X];rfl)
   go_ret3
   exact ⟨by rw [m.out];rfl,G.out⟩
  have h:((Q:Int) != (k:Int))=F:=by assumption
  have he:Q=k:=by simp at h;omega
  have m:H (oe (jw l)=YY #[T (bs C),T (bs r),YW YT]):=K (by
   rw [q.out];show oe (if Q=k then S (C,r) else N)=_
   rw [if_pos he];rfl)
  clear h he;go_quiet (fail)
  go_wp2_with fail
  go_ret3
  exact ⟨by rw [m.out];rfl,G.out.drewN _⟩
end Go.Proofs.YtponhohdpophlaaGreatDoor
