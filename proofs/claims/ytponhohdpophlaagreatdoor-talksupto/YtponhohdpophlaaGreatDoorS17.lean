import Derived.Test.YtponhohdpophlaaGreatDoorS13
import Derived.Test.YtponhohdpophlaaGreatDoorS10
import Derived.Deep.SlicePairs
import Derived.SizedLaws
namespace Go.Proofs.YtponhohdpophlaaGreatDoor
set_option maxHeartbeats 8000000
set_option maxRecDepth 1000000
open Go renaming heap_alloc_new->Q0,bodyPost_end->RN,results_none->RP,heap_setCell_same->Ro,bodyPost_ret->Ru,run_underlying->TB,callsIn_wide->UT,grownCap_ge->Us,Calls->Y8,TypeId->Za,Ending->Zb
open Go.DataW renaming trod_string->VG,trod_int->VI
open Go.Ending renaming returned->YX
open Go.IntKind renaming i64->J,wrap_i64->QY
open Go.Lib renaming cell_of_heap->Q3,frozen_of_heap->RJ,toList_data->SF
open Go.MapKept renaming run_getObj_map->UY
open Go.Maps renaming keyOf_int_mk->WC,int_keyed->WD
open Go.Obj renaming cells->YU
open Go.Proofs.Tryz renaming underlying9->RH,underlying30->Rt,underlying99->SE,underlying33->Sn,underlying3->TF,results98->UA,underlying31->VJ,underlying32->VK,underlying35->VM,results100->WE,func97->Wi,ntmps97->Wj,prog->Ys
open Go.RowKit renaming Hid->H,Below->Y6,intOf->Y9
open Go.RowKit.Below renaming refl->QQ
open Go.Value renaming int->I,slice->L,string->T,pointer->YV,bool->YW,tuple->YY,agg->YZ
open Go.WalkArith renaming wf_i64->Wh
open _root_.Array renaming getElem?_toList->Sl,toList_filter->TJ,getElem?_push->VV
open _root_.Bool renaming false->F,and_eq_true->Rk,and_true->SC,and_false->SG,true_and->Sy,false_and->Tt,true->YT
open _root_.Classical renaming not_not->Tb
open _root_.Int renaming tmod_eq_emod_of_nonneg->Uf,natCast_emod->Vp
open _root_.List renaming mem_range->Q8,getElem_mem->QU,take_succ_eq_append_getElem->QV,take_length->QZ,length_append->RI,length_cons->RQ,length_map->RU,mem_filter->Ra,all_eq_true->Rb,mem_cons->Rf,map_map->Rg,mem_map->Rl,take_append_drop->Rp,length_drop->Rq,mem_append->Rx,mem_singleton->Ry,mem_of_getElem?->SB,take_append_of_le_length->SO,drop_append_of_le_length->SP,take_of_length_le->SQ,drop_drop->SX,drop_zero->SY,map_congr_left->SZ,getElem?_take_of_lt->Sk,length_take->Sm,getElem?_map->TV,take_take->Tc,drop_take->Td,take_zero->Tf,filter_cons->Ul,all_cons->VE,length_range->VF
open _root_.List.cons renaming injEq->VH
open _root_.Nat renaming le_refl->QR,zero_le->QS,le_trans->Rn,mod_eq_of_lt->SV,zero_add->TD,not_lt->Ta,sub_self->Te,mul_one->Vf
open _root_.Option renaming none->N,some->S,map_eq_some_iff->Up,bind_eq_some_iff->VT
open _root_.Or renaming inl->Y4,inr->Y5
open Go.Proofs.Tryz
open Go.RowKit
def Qf(w w':QI)(id:Nat)(ps:List Nat)(v:QJ):Prop:=w'.ownsRow w.heap.size 3 1 v ps.length (bc ps)/\id<=4294967295/\1<=ps.length/\ps.length<=255/\∀x∈ps,x<=255
def CC(l:QF)(w:QI)(e:Zb)(w':QI):Prop:=
 (dM l=N/\e=YX (YY #[YZ #[I J 0,L N 0 0],YW F])\/∃id ps v,dM l=S (id,ps)/\e=YX (YY #[YZ #[I J (id:Nat),v],YW YT])/\Qf w w' id ps v)/\Y6 w.heap.size w w'
def vv(l:QF)(w:QI)(e:Zb)(w':QI):Prop:=
 (bX l=N/\e=YX (YY #[I J 0,YZ #[I J 0,L N 0 0],YW F])\/∃T id ps v,bX l=S (T,id,ps)/\e=YX (YY #[I J (T:Nat),YZ #[I J (id:Nat),v],YW YT])/\Qf w w' id ps v/\T<=1000000000)/\Y6 w.heap.size w w'
theorem Cr{w b:QI}{s:Nat}{l:QF}(c:w.heap.size=s)(d:l.length<=1048576)(a:(w.alloc (YU #[I J 0,L N 0 0] 174)).alloc (YU #[T (bs l),YW F] 166)=b):hJ b (s+1) (S l)/\pF b s 0 (L N 0 0)/\Y6 s w b/\b.heap.size=s+2:=by
 refine ⟨⟨by rw [<-a, <-c];have:=Q0 (w.alloc (YU #[I J 0,L N 0 0] 174)) (YU #[T (bs l),YW F] 166);simpa using this,by unfold maxLen;omega⟩,?_,?_,?_⟩
 .unfold pF;rw [<-a, <-c,((QQ (w.alloc (YU #[I J 0,L N 0 0] 174)).heap.size _).alloc (QR _) _).block w.heap.size (by simp)];exact Q0 w _
 .rw [<-a];exact ((QQ _ _).alloc (by omega) _).alloc (by simp;omega) _
 rw [<-a, <-c];simp
theorem pA{s k j n:Nat}{u:QI}{v x:QJ}{a:List QJ}(h:u.ownsRow (s+2) 3 1 v n a)(b:k < s+2):(u.setCell ⟨k,j,N⟩ x).ownsRow (s+2) 3 1 v n a:=bM h (show aA k u _ from (aA.refl _ _).setCell _) b
theorem DC(l:QF)(w:QI)(hl:l.length<=1048576):Y8 Ys 98 #[T (bs l)] w (CC l w):=by
 have sl:=aj l;obtain ⟨s,hs⟩:=QE w.heap.size;obtain ⟨W0,z⟩:=QE ((w.alloc (YU #[I J 0,L N 0 0] 174)).alloc (YU #[T (bs l),YW F] 166));obtain ⟨Y,R0,W,Z0⟩:=Cr hs hl z;have j:=jC (s+1) 1 (S l) W0 Y (by decide);have x:=K z;have n:=K hs;have m:=K R0;have k:=K W;have E:=K Z0;clear z Y R0 W Z0
 by_cases f:l.take 1=[71]
 .obtain ⟨r,hr⟩:=QE (l.drop 1);have HL:H (l=71::r):=K (by rw [<-Rp 1 l,f,hr];rfl);have e1:(S l).bind (bj 1)=S ([71],r):=by show bj 1 l=_;rw [HL.out];rfl
  have b:H (dM l=gG r):=K (by rw [HL.out];unfold dM;simp only;rw [if_pos trivial]);rw [e1] at j;have m1:((bs (ij (S ([71],r)))).toList == [71])=YT:=by show ((bs [71]).toList == [71])=YT;rw [kT];rfl
  have d:=K j;clear j e1 hr f;go_enter func98,ntmps98;go_wp2_with fail
  rw [x.out];refine d.out.mono ?_;rintro e p ⟨rfl,B,i⟩;have Z:hJ p (s+1) (S r):=B;have o:pF p s 0 (L N 0 0):=(i.2 s (by omega)).trans m.out;have X:=k.out.trans (i.below (by omega));have Z1:p.heap.size=s+2:=i.1.trans E.out;have D:=K (tJ (s+1) (S r) p Z (by omega));have U:=K o;have q:=K X;have y:=K Z1;clear B i Z o X Z1 d m k E x;go_wp2_with fail
  refine D.out.mono ?_;rintro e R ⟨A,h⟩;have G:pF R s 0 (L N 0 0):=(h.block s (by have:=y.out;omega) (by omega)).trans U.out;have r0:R.cell? ⟨s,0,N⟩=S (I J 0):=(G.cell 0).1;have g0:=(G.cell 0).2;have r1:R.cell? ⟨s,1,N⟩=S (L N 0 0):=(G.cell 1).1;have g1:=(G.cell 1).2;have C:H (Y6 s w R):=K (q.out.trans (h.below (by omega) (by have:=y.out;omega)));clear h G D
  rcases A with ⟨M,rfl⟩ | ⟨V,O,v,M,rfl,Q,B,i,h3,h4⟩
  .have u:H (dM l=N):=K (by rw [b.out];exact M);clear M b;go_wp2_with fail
   refine Ru (v:=YY #[YZ #[I J 0,L N 0 0],YW F]) (by simp [results,results98,go_sem, *]) rfl ?_;refine ⟨Y4 ⟨u.out,rfl⟩,?_⟩;rw [n.out];exact (C.out.setCell (QR _) _).setCell (QR _) _
  have u:H (dM l=S (V,O)):=K (by rw [b.out];exact M);rw [y.out] at Q;have HO:=K Q;have H4:=K h4
  obtain ⟨a,P,rfl⟩:∃a P,v=L a O.length P:=by
   rcases Q.2 with ⟨e,h0⟩ | ⟨g,a0,a1,e,_⟩
   .exact ⟨_,_,by rw [h0];exact e⟩
   exact ⟨_,_,e⟩
  clear M b Q h4;go_wp2_with fail
  refine Ru (v:=YY #[YZ #[I J V,L a O.length P],YW YT]) (by simp [results,results98,go_sem, *]) rfl ?_;refine ⟨Y5 ⟨V,O,L a O.length P,u.out,rfl,?_,B,i,h3,H4.out⟩,?_⟩
  .rw [n.out];exact (pA (pA HO.out (by omega)) (by omega)).mono (by omega)
  rw [n.out];exact (C.out.setCell (QR _) _).setCell (QR _) _
 have b:H (dM l=N):=K (by
  cases l with
  | nil=>rfl
  | cons c r=>
   have j:¬c=71:=λe=>f (by rw [e];rfl);unfold dM;simp only
   rw [if_neg j])
 have m1:((bs (ij ((S l).bind (bj 1)))).toList == [71])=F:=by
  rw [kT]
  cases l with
  | nil=>rfl
  | cons c r=>
   have j:¬c=71:=λe=>f (by rw [e];rfl);show ([c] == [71])=F;simpa using j
 obtain ⟨t,et⟩:=QE (ij ((S l).bind (bj 1)));rw [et] at m1 j;have d:=K j;clear f et j;go_enter func98,ntmps98;go_wp2_with fail
 rw [x.out];refine d.out.mono ?_;rintro e p ⟨rfl,B,i⟩;have o:pF p s 0 (L N 0 0):=(i.2 s (by omega)).trans m.out;have r0:p.cell? ⟨s,0,N⟩=S (I J 0):=(o.cell 0).1;have g0:=(o.cell 0).2;have r1:p.cell? ⟨s,1,N⟩=S (L N 0 0):=(o.cell 1).1;have g1:=(o.cell 1).2;have q:=K (k.out.trans (i.below (by omega)));clear B i o d m k;go_wp2_with fail
 refine Ru (v:=YY #[YZ #[I J 0,L N 0 0],YW F]) (by simp [results,results98,go_sem, *]) rfl ?_;refine ⟨Y4 ⟨b.out,rfl⟩,?_⟩;rw [n.out];exact (q.out.setCell (QR _) _).setCell (QR _) _
theorem zD(l:QF)(w:QI)(hl:l.length<=1048576):Y8 Ys 100 #[T (bs l)] w (vv l w):=by
 have sl:=aj l;obtain ⟨s,hs⟩:=QE w.heap.size;obtain ⟨W0,U⟩:=QE ((w.alloc (YU #[I J 0,L N 0 0] 174)).alloc (YU #[T (bs l),YW F] 166));obtain ⟨F0,R0,B0,Z0⟩:=Cr hs hl U;have u:=jC (s+1) 1 (S l) W0 F0 (by decide);have P:=K U;have k:=K hs;have A:=K R0;have z:=K B0;have a2:=K Z0;clear U F0 R0 B0 Z0
 by_cases n:l.take 1=[70]
 .obtain ⟨r,hr⟩:=QE (l.drop 1);have HL:H (l=70::r):=K (by rw [<-Rp 1 l,n,hr];rfl);have e1:(S l).bind (bj 1)=S ([70],r):=by show bj 1 l=_;rw [HL.out];rfl
  have B:H (bX l=(gK 4 r).bind λa=>(gG a.2).bind λx=>if a.1<=1000000000 then S (a.1,x.1,x.2) else N):=K (by rw [HL.out];unfold bX;simp only;rw [if_pos trivial]);rw [e1] at u;have m1:((bs (ij (S ([70],r)))).toList == [70])=YT:=by show ((bs [70]).toList == [70])=YT;rw [kT];rfl
  have i:=K u;clear u e1 hr n;go_enter func100,ntmps100;go_wp2_with fail
  rw [P.out];refine i.out.mono ?_;rintro e y ⟨rfl,C,f⟩;have F1:hJ y (s+1) (S r):=C;have m:pF y s 0 (L N 0 0):=(f.2 s (by omega)).trans A.out;have Z:=z.out.trans (f.below (by omega));have Z1:y.heap.size=s+2:=f.1.trans a2.out;obtain ⟨b,o1,hT⟩:∃b o1,gA 4 (S r)=(b,o1):=⟨_,_,rfl⟩;have a9:b<=4294967295:=by have:=nG 4 (S r);rw [hT] at this;simp at this;omega
  have h:H (bX l=(jV o1).bind λx=>if b<=1000000000 then S (b,x.1,x.2) else N):=K (by
   rw [B.out,kl,hT]
   cases o1 with
   | none=>rfl
   | some q=>rfl)
  have W:Y8 Ys 93 #[YV (S ⟨s+1,0,N⟩),I J 4] y λe w'=>e=YX (I J (gA 4 (S r)).1)/\hJ w' (s+1) (gA 4 (S r)).2/\aA (s+1) y w':=dQ (s+1) 4 (S r) y F1 (by decide);rw [hT] at W;have a0:=K W;have E:=K m;have D:=K Z;have G:=K Z1;clear C f F1 m Z Z1 i A z a2 P hT W B;go_wp2_with fail
  refine a0.out.mono ?_;rintro e Y ⟨rfl,C,f⟩;have m:pF Y s 0 (L N 0 0):=(f.2 s (by omega)).trans E.out;have Z:=D.out.trans (f.below (by omega));have Z1:Y.heap.size=s+2:=f.1.trans G.out;have a1:=K (tJ (s+1) o1 Y C (by omega));have a3:=K m;have M:=K Z;have Q:=K Z1;clear C f m Z Z1 a0 E D G;go_wp2_with fail
  refine a1.out.mono ?_;rintro e d ⟨V,p⟩;have R2:pF d s 0 (L N 0 0):=(p.block s (by have:=Q.out;omega) (by omega)).trans a3.out;have r0:d.cell? ⟨s,0,N⟩=S (I J 0):=(R2.cell 0).1;have g0:=(R2.cell 0).2;have r1:d.cell? ⟨s,1,N⟩=S (L N 0 0):=(R2.cell 1).1;have g1:=(R2.cell 1).2;have O:H (Y6 s w d):=K (M.out.trans (p.below (by omega) (by have:=Q.out;omega)));have b0:s < d.heap.size:=au r0;have b2:∀o:Obj,(d.alloc o).cell? ⟨s,0,N⟩=S (I J 0):=λo=>(((QQ d.heap.size d).alloc (QR _) o).cell (au r0)).trans r0;have b3:∀o:Obj,(d.alloc o).cell? ⟨s,1,N⟩=S (L N 0 0):=λo=>(((QQ d.heap.size d).alloc (QR _) o).cell (au r1)).trans r1;have a7:∀o:Obj,(d.alloc o).frozen? ⟨s,0,N⟩=F:=λo=>(((QQ d.heap.size d).alloc (QR _) o).frozen (au r0)).trans g0;have a8:∀o:Obj,(d.alloc o).frozen? ⟨s,1,N⟩=F:=λo=>(((QQ d.heap.size d).alloc (QR _) o).frozen (au r1)).trans g1;have b1:¬d.heap.size=s:=by omega
  have a4:¬s=d.heap.size:=by omega
  clear p R2 a1
  rcases V with ⟨X,rfl⟩ | ⟨id,ps,v,X,rfl,ho,C,f,h3,h4⟩
  .have j:H (bX l=N):=K (by rw [h.out,X];rfl);clear X h;go_wp2_with fail
   refine Ru (v:=YY #[I J 0,YZ #[I J 0,L N 0 0],YW F]) (by simp [results,results100,go_sem, *]) rfl ?_;refine ⟨Y4 ⟨j.out,rfl⟩,?_⟩;rw [k.out];exact ((O.out.setCell (QR _) _).setCell (QR _) _).alloc (by simp;omega) _
  obtain ⟨a,cp,rfl⟩:∃a cp,v=L a ps.length cp:=by
   rcases ho.2 with ⟨e,h0⟩ | ⟨g,a5,a6,e,_⟩
   .exact ⟨_,_,by rw [h0];exact e⟩
   exact ⟨_,_,e⟩
  rw [Q.out] at ho;have HO:=K ho;have H4:=K h4
  by_cases R:b<=1000000000
  .have j:H (bX l=S (b,id,ps)):=K (by rw [h.out,X,sb,if_pos R]);have hd:decide (1000000000 < (b:Int))=F:=decide_eq_false (by omega);clear X h ho h4;go_wp2_with fail
   go_region
   go_wp2_with fail
   refine Ru (v:=YY #[I J b,YZ #[I J id,L a ps.length cp],YW YT]) (by simp [results,results100,go_sem, *]) rfl ?_;refine ⟨Y5 ⟨b,id,ps,L a ps.length cp,j.out,rfl,⟨?_,C,f,h3,H4.out⟩,R⟩,?_⟩
   .rw [k.out];exact ((((pA (pA HO.out (by omega)) (by omega)).alloc _).drew)).mono (by omega)
   rw [k.out];exact (((O.out.setCell (QR _) _).setCell (QR _) _).alloc (by simp;omega) _).drew
  have j:H (bX l=N):=K (by rw [h.out,X,sb,if_neg R]);have hd:decide (1000000000 < (b:Int))=YT:=decide_eq_true (by omega);clear X h ho h4;go_wp2_with fail
  refine Ru (v:=YY #[I J 0,YZ #[I J 0,L N 0 0],YW F]) (by simp [results,results100,go_sem, *]) rfl ?_;refine ⟨Y4 ⟨j.out,rfl⟩,?_⟩;rw [k.out];exact ((O.out.setCell (QR _) _).setCell (QR _) _).alloc (by simp;omega) _
 have B:H (bX l=N):=K (by
  cases l with
  | nil=>rfl
  | cons c r=>
   have u:¬c=70:=λe=>n (by rw [e];rfl);unfold bX;simp only
   rw [if_neg u])
 have m1:((bs (ij ((S l).bind (bj 1)))).toList == [70])=F:=by
  rw [kT]
  cases l with
  | nil=>rfl
  | cons c r=>
   have u:¬c=70:=λe=>n (by rw [e];rfl);show ([c] == [70])=F;simpa using u
 obtain ⟨t,et⟩:=QE (ij ((S l).bind (bj 1)));rw [et] at m1 u;have i:=K u;clear n et u;go_enter func100,ntmps100;go_wp2_with fail
 rw [P.out];refine i.out.mono ?_;rintro e y ⟨rfl,C,f⟩;have m:pF y s 0 (L N 0 0):=(f.2 s (by omega)).trans A.out;have r0:y.cell? ⟨s,0,N⟩=S (I J 0):=(m.cell 0).1;have g0:=(m.cell 0).2;have r1:y.cell? ⟨s,1,N⟩=S (L N 0 0):=(m.cell 1).1;have g1:=(m.cell 1).2;have M:=K (z.out.trans (f.below (by omega)));clear C f m i A z;go_wp2_with fail
 refine Ru (v:=YY #[I J 0,YZ #[I J 0,L N 0 0],YW F]) (by simp [results,results100,go_sem, *]) rfl ?_;refine ⟨Y4 ⟨B.out,rfl⟩,?_⟩;rw [k.out];exact (M.out.setCell (QR _) _).setCell (QR _) _
def jx(l:List QF):QF:=Ng++l.flatMap λt=>[13,10]++t
theorem Fq(l:List QF)(k:Nat)(h:k < l.length):jx (l.take (k+1))=jx (l.take k)++([13,10]++l[k]):=by
 unfold jx;rw [QV h,List.flatMap_append];simp
theorem Fp(b:List QF)(a:List Nat):jx (a.map λi=>b.getD i [])=qS b a:=by
 unfold jx qS;rw [List.flatMap_map];rfl
theorem zR(l:List QF)(v:QJ)(w:QI)(h:bg w v l.length 1 (ah l))(D:l.length<=255)(q:∀t∈l,t.length<=255):Y8 Ys 158 #[v] w λe z=>e=YX (T (bs (jx l)))/\w=z:=by
 obtain ⟨a,u,rfl,o⟩:=h.one;have r:=K o;have s:=K q;clear h o q;go_enter func158,ntmps158;go_wp2_with fail
 go_loop [3,8] (λb i=>∃(k:Nat) (B:QF),k<=l.length/\i=I J k/\b=T (bs B)/\B.length<=14+257 * k/\H (B=jx (l.take k))) (λ_ i=>l.length - (Y9 i).toNat)
 case atStart=>exact ⟨0,Ng,QS _,rfl,rfl,by decide,K (by simp [jx])⟩
 case round=>
  obtain ⟨k,B,C,rfl,rfl,A,f⟩:=hrel;have G:=aj B
  by_cases d:k < l.length
  .have p:(k:Int) < (l.length:Int):=by omega
   obtain ⟨b,y,rfl,x,c⟩:=r.out k d;rw [gn l k d] at c;have j:=s.out l[k] (QU d);have m:=K (Fq l k d);obtain ⟨t,n⟩:=QE (l[k]);rw [n] at c j m;have M:=aj t;have E:((⟨#[13,10]⟩:QL)++bs t).size<=257:=by rw [show (⟨#[13,10]⟩:QL)=bs [13,10] from rfl,aQ,aj];simp;omega
   clear n;go_wp2_with fail
   refine ⟨⟨k+1,B++([13,10]++t),by omega,by go_num,?_,by simp;omega,K (by rw [m.out, <-f.out])⟩,by simp [Y9];omega⟩
   rw [show (⟨#[13,10]⟩:QL)=bs [13,10] from rfl,aQ,aQ]
  have g:k=l.length:=by omega
  subst g;rw [QZ] at f;go_wp2_with fail
  go_ret;exact ⟨by rw [<-f.out];rfl,rfl⟩
def uE(q:Nat->Nat)(i:Nat):MapEntry:=⟨.int .i64 ((i:Int)+1),.pointer (some ⟨q i,0,none⟩),i⟩
def dY(q:Nat->Nat)(l:List Nat):Array MapEntry:=(l.map (uE q)).toArray
def iu(w:QI)(b:Nat)(q:Nat->Nat)(l:List Nat)(c:Nat):Prop:=w.heap[b]? =some (.map (dY q l) c)
theorem Jx(q:Nat->Nat){i j:Nat}(h:(uE q i).key= .int .i64 ((j:Int)+1)):i=j:=by
 unfold uE at h;simp only [Value.int.injEq,true_and] at h;omega
theorem dh(q:Nat->Nat)(l:List Nat):(dY q l).toList=l.map (uE q):=by simp [dY]
theorem Hk{q a:Nat->Nat}{l:List Nat}(h:∀i∈l,q i=a i):dY q l=dY a l:=by
 unfold dY
 congr 1
 exact SZ λi d=>by unfold uE;rw [h i d]
section
variable {P:Program} {k e t:TypeId} {w:QI} {b c:Nat} {q:Nat->Nat} {l:List Nat}
theorem BI(f:P.underlying k=some (.int .i64))(q:Nat->Nat)(l:List Nat)(g:∀i∈l,i < 4294967296):∀x∈l.map (uE q),∃y,keyOf P k x.key=some y:=by
 intro x h;obtain ⟨i,d,rfl⟩:=Rl.1 h;exact ⟨_,WC f (a:=(i:Int)+1) (Wh (by have:=g i d;omega))⟩
theorem uY(g:P.underlying k=some (.int .i64))(p:∀i∈l,i < 4294967296)(j:Nat)(u:j < 4294967296):(j ∉ l->(Instr.findKey k (.int .i64 ((j:Int)+1)) (l.map (uE q))).run P w= .ok none w)/\
  (j∈l->∃n,(Instr.findKey k (.int .i64 ((j:Int)+1)) (l.map (uE q))).run P w= .ok (some (n,.pointer (some ⟨q j,0,none⟩))) w/\l[n]? =some j):=by
 have a:keyOf P k (.int .i64 ((j:Int)+1))=some (.int .i64 ((j:Int)+1)):=WC g (Wh (by omega))
 rcases (WD g).find w a (l.map (uE q)) (BI g q l p) with ⟨f,d⟩ | ⟨n,x,f,d,o⟩
 .exact ⟨λ_=>f,λr=>absurd rfl (d (uE q j) (Rl.2 ⟨j,r,rfl⟩))⟩
 rw [TV,Up] at d;obtain ⟨i,h,rfl⟩:=d;have m:=Jx q o;subst m;exact ⟨λs=>absurd (SB h) s,λ_=>⟨n,f,h⟩⟩
theorem qV(d:P.underlying k=some (.int .i64))(j:Nat)(f:j < 4294967296)(a:Bool):(Instr.checkKey a 10000 k (.int .i64 ((j:Int)+1))).run P w= .ok () w:=
 (WD d).check w a (WC d (Wh (by omega)))
theorem rA(d:P.underlying k=some (.int .i64))(p:P.underlying t=some (.map k e))(h:iu w b q l c)(m:∀i∈l,i < 4294967296)(j:Nat)(a:j < 4294967296)(o:j∈l)(f:Bool):(Instr.lookup t (.map (some b)) (.int .i64 ((j:Int)+1)) f).run P w= .ok (if f then .tuple #[.pointer (some ⟨q j,0,none⟩),.bool true] else .pointer (some ⟨q j,0,none⟩)) w:=by
 obtain ⟨n,g,_⟩:=(uY (w:=w) (q:=q) d m j a).2 o;simp [Instr.lookup,TB p,UY h,qV d j a,dh,g,Result.andThen]
theorem Fm(d:P.underlying k=some (.int .i64))(o:P.underlying t=some (.map k e))(p:(zeroValue e).run P w= .ok (.pointer none) w)(h:iu w b q l c)(m:∀i∈l,i < 4294967296)(j:Nat)(a:j < 4294967296)(n:j ∉ l)(f:Bool):(Instr.lookup t (.map (some b)) (.int .i64 ((j:Int)+1)) f).run P w= .ok (if f then .tuple #[.pointer none,.bool false] else .pointer none) w:=by
 have g:=(uY (w:=w) (q:=q) d m j a).1 n;simp [Instr.lookup,TB o,UY h,qV d j a,dh,g,p,Result.andThen]
theorem AI(f:P.underlying k=some (.int .i64))(p:P.underlying t=some (.map k e))(r:(zeroValue e).run P w= .ok (.pointer none) w)(h:iu w b q l c)(o:∀i∈l,i < 4294967296)(m:Bool):(Instr.lookup t (.map (some b)) (.int .i64 0) m).run P w= .ok (if m then .tuple #[.pointer none,.bool false] else .pointer none) w:=by
 have a:keyOf P k (.int .i64 0)=some (.int .i64 0):=WC f (Wh (by omega))
 have d:(Instr.findKey k (.int .i64 0) (l.map (uE q))).run P w= .ok none w:=by
  rcases (WD f).find w a (l.map (uE q)) (BI f q l o) with ⟨d,g⟩ | ⟨n,x,d,g,j⟩
  .exact d
  rw [TV,Up] at g;obtain ⟨i,s,rfl⟩:=g;unfold uE at j;simp only [Value.int.injEq,true_and] at j;omega
 simp [Instr.lookup,TB p,UY h,(WD f).check w _ a,dh,d,r,Result.andThen]
theorem OU(f:P.underlying k=some (.int .i64))(s:P.underlying t=some (.map k e))(h:iu w b q l c)(g:∀i∈l,i < c)(u:c < 4294967295)(p:Nat)(a:Nat->Nat)(r:∀i∈l,a i=q i)(o:a c=p):(Instr.mapUpdate t (.map (some b)) (.int .i64 ((c:Int)+1)) (.pointer (some ⟨p,0,none⟩))).run P w= .ok () (ChangeMaps.setBlock w b (.map (dY a (l++[c])) (c+1))):=by
 have m:=(uY (w:=w) (q:=q) f (λi d=>by have:=g i d;omega) c (by omega)).1 (λn=>by have:=g c n;omega)
 have j:(dY q l).push ⟨.int .i64 ((c:Int)+1),.pointer (some ⟨p,0,none⟩),c⟩=dY a (l++[c]):=by
  rw [Hk (λi d=>(r i d).symm)];unfold dY;rw [List.map_append,List.push_toArray];simp [uE,o]
 simp [Instr.mapUpdate,TB s,UY h,qV f c (by omega),dh,m,MapKept.run_setObj_map _ h,Result.andThen,ChangeMaps.setBlock,j]
theorem Hm{l:List Nat}(a:l.Nodup){n j:Nat}(h:l[n]? =some j):l.eraseIdx n=l.filter λi=>decide (i≠j):=by
 induction l generalizing n with
 | nil=>simp at h
 | cons x l ih=>
  rw [List.nodup_cons] at a
  cases n with
  | zero=>
   simp only [List.getElem?_cons_zero,Option.some.injEq] at h;subst h;rw [List.eraseIdx_cons_zero,Ul];simp only [ne_eq,not_true_eq_false,decide_false,Bool.false_eq_true,if_false];refine (List.filter_eq_self.2 λi d=>?_).symm;have:i≠x:=λe=>a.1 (e ▸ d);simpa using this
  | succ n=>
   simp only [List.getElem?_cons_succ] at h;have f:x≠j:=λe=>a.1 (e ▸ SB h);rw [List.eraseIdx_cons_succ,Ul,if_pos (by simpa using f),ih a.2 h]
theorem MW{x:TypeId}(g:P.underlying k=some (.int .i64))(v:P.underlying t=some (.map k e))(h:iu w b q l c)(p:∀i∈l,i < 4294967296)(s:l.Nodup)(j:Nat)(f:j < 4294967296)(r:j∈l):(Builtin.delete_ #[t,k] x #[.map (some b),.int .i64 ((j:Int)+1)]).run P w= .ok (.tuple #[]) (ChangeMaps.setBlock w b (.map (dY q (l.filter λi=>decide (i≠j))) c)):=by
 obtain ⟨n,o,d⟩:=(uY (w:=w) (q:=q) g p j f).2 r;have a:n < l.length:=(List.getElem?_eq_some_iff.1 d).1
 have m:(dY q l).eraseIdxIfInBounds n=dY q (l.filter λi=>decide (i≠j)):=by
  rw [<-Hm s d];have u:n < (dY q l).size:=by simpa [dY] using a
  apply Array.toList_inj.1;unfold Array.eraseIdxIfInBounds;rw [dif_pos u,Array.toList_eraseIdx,dh,dh, <-ChangeMaps.map_eraseIdx]
 simp [Builtin.delete_,TB v,UY h,qV g j f,dh,o,MapKept.run_setObj_map _ h,Result.andThen,ChangeMaps.setBlock,m]
end
structure bt(base:Nat)(w:QI)(pb mb:Nat)(q:Nat->Nat)(vr:QJ)(S:aa):Prop where
 xx:w.heap[pb]? =some (YU #[vr,I J S.time,I J S.items.length,.map (some mb)] 102 (0,0))
 map:iu w mb q S.live S.items.length
 yyW:base<=pb
 xZ:base<=mb
 one:∀i∈S.live,∀j∈S.live,q i=q j->i=j
 xu:∀i∈S.live,base<=q i/\∃v x,gf w (q i) (S.xr i).time (S.xr i).xk v (S.xr i).body x/\w.ownsRow base 218 2 v (S.xq i).length (cI (S.xq i))
theorem jj{p:Nat}{w w':QI}(b:pE p w w'){k:Nat}{o:Obj}(h:w.heap[k]? =some o)(a:k≠p):w'.heap[k]? =some o:=(b.block k (aq h) a).trans h
theorem jo{w:QI}{b:Nat}{a:Array MapEntry}{c:Nat}(h:w.heap[b]? =some (.map a c))(o:Obj):aA b w (ChangeMaps.setBlock w b o):=
 ⟨by simp [ChangeMaps.setBlock],λk d=>ChangeMaps.heap_setBlock_other h o d,⟨rfl,rfl,rfl⟩⟩
section
variable {base pb mb:Nat} {q:Nat->Nat} {vr:QJ} {S:aa} {w w':QI}
theorem bt.yb(h:bt base w pb mb q vr S):pb < w.heap.size:=aq h.xx
theorem bt.zg(h:bt base w pb mb q vr S):mb < w.heap.size:=aq h.map
theorem bt.le(h:bt base w pb mb q vr S):base<=w.heap.size:=by have:=h.yb;have:=h.yyW;omega
theorem bt.xo(h:bt base w pb mb q vr S)(d:Y6 w.heap.size w w'):bt base w' pb mb q vr S:=
 ⟨ae d h.xx,ae d h.map,h.yyW,h.xZ,h.one,λi j=>by
  obtain ⟨a,v,x,b,c⟩:=h.xu i j
  exact ⟨a,v,x,ae d b,aB c λg f e _=>ae d e⟩⟩
theorem bt.yv(h:bt base w pb mb q vr S){T:Nat}{vr':QJ}(d:aA pb w w')(l:w'.heap[pb]? =some (YU #[vr',I J T,I J S.items.length,.map (some mb)] 102 (0,0))):bt base w' pb mb q vr' ⟨S.items,T⟩:=
 ⟨l,bm d h.map (λe=>by have:=h.map;unfold iu at this;rw [e,h.xx] at this;simp at this),h.yyW,h.xZ,h.one,λi k=>by
  obtain ⟨a,v,x,b,c⟩:=h.xu i k;refine ⟨a,v,x,bm d b (λe=>?_),aB c λg f e _=>bm d e λj=>?_⟩
  .unfold gf at b;rw [e,h.xx] at b;simp at b
  rw [j,h.xx] at e;simp at e⟩
theorem bt.added(h:bt base w pb mb q vr S){p s:QI}{m:aX}{Q:Nat}{v:QJ}{x:Int×Int}(y:aA pb w p)(u:p.heap[pb]? =some (YU #[vr,I J m.time,I J ((S.items.length:Int)+1),.map (some mb)] 102 (0,0)))
  (C:Y6 p.heap.size p s) (Z:p.heap.size<=Q) (E:gf s Q m.time m.xk v m.body x) (P:s.ownsRow p.heap.size 218 2 v m.xd.length (cI (mV m.xd (List.replicate m.xd.length F)))) (R:1<=m.xd.length):
  bt base (ChangeMaps.setBlock s mb (.map (dY (λi=>if i=S.items.length then Q else q i) (S.live++[S.items.length])) (S.items.length+1))) pb mb (λi=>if i=S.items.length then Q else q i) vr (S.plus m):=by
 have r:p.heap[mb]? =some (.map (dY q S.live) S.items.length):=bm y h.map (λe=>by have:=h.map;unfold iu at this;rw [e,h.xx] at this;simp at this);have f:s.heap[mb]? =some (.map (dY q S.live) S.items.length):=ae C r;have D:=jo f (.map (dY (λi=>if i=S.items.length then Q else q i) (S.live++[S.items.length])) (S.items.length+1));have t:base<=p.heap.size:=by rw [y.1];exact h.le
 have O:pb≠mb:=λe=>by rw [e,r] at u;simp at u
 have l:∀i∈S.live,i≠S.items.length:=λi d e=>by have:=dR d;omega
 refine ⟨?_,?_,h.yyW,h.xZ,?_,?_⟩
 .rw [j0];have:=bm D (ae C u) O;simpa [aa.plus] using this
 .unfold iu;rw [j0,pB R];exact ChangeMaps.heap_setBlock_same f _
 .rw [pB R]
  have U:∀i∈S.live,q i < Q:=λi d=>by
   obtain ⟨_,v,_,b,_⟩:=h.xu i d;have:=aq b;rw [y.1] at Z;omega
  intro i d j o e;simp only [Rx,Ry] at d o
  rcases d with d | rfl
  .rcases o with o | rfl
   .rw [if_neg (l i d),if_neg (l j o)] at e;exact h.one i d j o e
   rw [if_neg (l i d),if_pos rfl] at e;have:=U i d;omega
  rcases o with o | rfl
  .rw [if_pos rfl,if_neg (l j o)] at e;have:=U j o;omega
  rfl
 rw [pB R];intro i d;simp only [Rx,Ry] at d
 have k:∀{n:Nat} {v:QJ} {V:List QJ} {B:Nat},base<=B->s.ownsRow B 218 2 v n V->(ChangeMaps.setBlock s mb (.map (dY (λi=>if i=S.items.length then Q else q i) (S.live++[S.items.length])) (S.items.length+1))).ownsRow base 218 2 v n V:=λY P=>by
  refine (aB P λg G e _=>bm D e λM=>?_).mono Y;rw [M,f] at e;simp at e
 rcases d with d | rfl
 .have z:=dR d;obtain ⟨a,v,x,b,c⟩:=h.xu i d;simp only [if_neg (l i d)];rw [FE z,tV z];have W:gf p (q i) (S.xr i).time (S.xr i).xk v (S.xr i).body x:=bm y b (λe=>by unfold gf at b;rw [e,h.xx] at b;simp at b);have A:gf s (q i) (S.xr i).time (S.xr i).xk v (S.xr i).body x:=ae C W;refine ⟨a,v,x,bm D A (λe=>by unfold gf at A;rw [e,f] at A;simp at A),k (QR _) ?_⟩;refine aB c λg G e _=>ae C (bm y e λM=>?_);rw [M,h.xx] at e;simp at e
 simp only [if_true];rw [uJ,nW];have X:(mV m.xd (List.replicate m.xd.length F)).length=m.xd.length:=by rw [rZ];simp
 rw [X];exact ⟨by omega,v,x,bm D E (λe=>by unfold gf at E;rw [e,f] at E;simp at E),k t P⟩
theorem bt.left(h:bt base w pb mb q vr S){m:QI}{d:Nat}{l:List Nat}{v:QJ}{x:Int×Int}(j:d∈S.live)(k:pE (q d) w m)(u:gf m (q d) (S.xr d).time (S.xr d).xk v (S.xr d).body x)
  (y:m.ownsRow w.heap.size 218 2 v (cH (S.xq d) l).length (cI (cH (S.xq d) l))) (p:cH (S.xq d) l≠[]):bt base m pb mb q vr (S.outs d l):=by
 obtain ⟨s,B,C,f,A⟩:=h.xu d j;refine ⟨?_,?_,h.yyW,h.xZ,?_,?_⟩
 .rw [dV];exact jj k h.xx (λe=>by unfold gf at f;rw [<-e,h.xx] at f;simp at f)
 .unfold iu;rw [dV,lT j p];refine jj k h.map (λe=>?_);have:=h.map;unfold iu at this;unfold gf at f;rw [e,f] at this;simp at this
 .rw [lT j p];exact h.one
 rw [lT j p];intro i r;rw [kN]
 by_cases e:i=d
 .subst e;rw [oS (dR j)];exact ⟨s,v,x,u,y.mono h.le⟩
 obtain ⟨a,z,x,b,c⟩:=h.xu i r;rw [jZ e];refine ⟨a,z,x,jj k b (λn=>e (h.one i r d j n)),aB c λg t o _=>jj k o λn=>?_⟩;unfold gf at f;rw [n,f] at o;simp at o
theorem bt.yy(h:bt base w pb mb q vr S){p:QI}{d:Nat}{A:List Nat}(o:d∈S.live)(s:pE (q d) w p)(z:cH (S.xq d) A=[]):p.heap[mb]? =some (.map (dY q S.live) S.items.length)/\
  bt base (ChangeMaps.setBlock p mb (.map (dY q (S.live.filter λi=>decide (i≠d))) S.items.length)) pb mb q vr (S.outs d A):=by
 obtain ⟨E,M,O,k,G⟩:=h.xu d o
 have f:p.heap[mb]? =some (.map (dY q S.live) S.items.length):=jj s h.map (λe=>by
  have:=h.map;unfold iu at this;unfold gf at k;rw [e,k] at this
  simp at this)
 have v:=jo f (.map (dY q (S.live.filter λi=>decide (i≠d))) S.items.length);have m:=jj s h.xx (λe=>by unfold gf at k;rw [<-e,h.xx] at k;simp at k);refine ⟨f,?_,?_,h.yyW,h.xZ,?_,?_⟩
 .rw [dV];exact bm v m (λe=>by rw [e,f] at m;simp at m)
 .unfold iu;rw [dV,lS o z];exact ChangeMaps.heap_setBlock_same f _
 .rw [lS o z];exact λi n j D e=>h.one i (Ra.1 n).1 j (Ra.1 D).1 e
 rw [lS o z];intro i n;obtain ⟨n,y⟩:=Ra.1 n;have e:i≠d:=by simpa using y
 rw [kN,jZ e];obtain ⟨a,B,x,b,c⟩:=h.xu i n;have r:gf p (q i) (S.xr i).time (S.xr i).xk B (S.xr i).body x:=jj s b (λl=>e (h.one i n d o l));refine ⟨a,B,x,bm v r (λl=>by unfold gf at r;rw [l,f] at r;simp at r),aB c λg C t _=>?_⟩;have u:=jj s t (λl=>by unfold gf at k;rw [l,k] at t;simp at t);exact bm v u (λl=>by rw [l,f] at u;simp at u)
end
theorem Mz(P:Nat)(a:QF)(c b:Nat)(w:QI)(d:w.cell? ⟨c,0,N⟩=S (I J b)):Y8 Ys 267 #[YZ #[I J P,T (bs a)],YV (S ⟨c,0,N⟩)] w λe h=>e=YX (YW (decide (P=b)))/\Y6 w.heap.size w h:=by
 have g:∀o:Obj,(w.alloc o).cell? ⟨c,0,N⟩=S (I J b):=λo=>by
  rw [((QQ _ w).alloc (QR _) o).cell (show c < w.heap.size from au d)];exact d
 go_enter func267,ntmps267;go_wp2_with fail
 go_ret;have f:((P:Int) == (b:Int))=decide (P=b):=by rw [Bool.eq_iff_iff];simp only [beq_iff_eq,decide_eq_true_eq];omega
 exact ⟨by rw [<-f];rfl,(QQ _ w).alloc (QR _) _⟩
theorem Aq{l:List (Nat×QF)}{p:Nat×QF->Bool}{k:Nat}(h:k < l.length)(a:(l.take k).any p=F)(b:p l[k]=F):(l.take (k+1)).any p=F:=by
 rw [QV h,List.any_append,a];simp [b]
theorem Oq{l:List (Nat×QF)}{p:Nat×QF->Bool}{k:Nat}(h:k < l.length)(a:p l[k]=YT):l.any p=YT:=List.any_eq_true.2 ⟨_,QU h,a⟩
theorem AB(t:Nat)(l:List (Nat×QF))(v:QJ)(z f:Nat)(w:QI)(M:w.ownsRow t 218 2 v l.length (cI l))(Z:w.cell? ⟨z,0,N⟩=S (I J f))(hl:l.length<=255):Y8 Ys 305 #[v,.func (.func 267) #[] #[YV (S ⟨z,0,N⟩)]] w λe O=>∃r:Int,e=YX (I J r)/\(-1<=r/\r<=255)/\decide (0<=r)=l.any (λx=>decide (x.1=f))/\Y6 w.heap.size w O:=by
 have HV:=K M;have Q:=K Z
 obtain ⟨av,cv,rfl⟩:∃a c,v=L a l.length c:=by
  rcases M.2 with ⟨e,X⟩ | ⟨g,a1,E,e,_⟩
  .exact ⟨_,_,by rw [X];exact e⟩
  exact ⟨_,_,e⟩
 obtain ⟨s,hs⟩:=QE w.heap.size;have j:=K hs;clear M hs Z;go_enter func305,ntmps305;go_wp2_with fail
 go_loopw [5,8] (λ_ i O=>∃k:Nat,k<=l.length/\i=I J k/\H ((l.take k).any (λx=>decide (x.1=f))=F)/\H (Y6 s w O)) (λ_ i _=>l.length - (Y9 i).toNat)
 case atStart=>exact ⟨0,QS _,rfl,K rfl,K (by rw [<-j.out];exact QQ _ _)⟩
 case round=>
  obtain ⟨k,hk,rfl,A,n⟩:=hrel
  by_cases m:k < l.length
  .have a0:(k:Int) < (l.length:Int):=by omega
   obtain ⟨g,rfl,C,D⟩:∃g,av=S ⟨g,0,N⟩/\w.cell? ⟨g,k * 2,N⟩=S (I J (l[k].1:Int))/\w.cell? ⟨g,k * 2+1,N⟩=S (T (bs l[k].2)):=by
    rcases HV.out.2 with ⟨_,X⟩ | ⟨g,cp,E,e,_,hg,_,_,_,y⟩
    .omega
    injection e with e1 _ _;refine ⟨g,e1,?_,?_⟩
    .rw [Q3 hg, <-Sl, <-Sk (show k * 2 < l.length * 2 by omega),y];exact (jF l k m).1
    rw [Q3 hg, <-Sl, <-Sk (show k * 2+1 < l.length * 2 by omega),y];exact (jF l k m).2
   have R:wr.cell? ⟨g,k * 2,N⟩=S (I J (l[k].1:Int)):=(n.out.cell (by show g < s;rw [<-j.out];exact au C)).trans C;have U:wr.cell? ⟨g,k * 2+1,N⟩=S (T (bs l[k].2)):=(n.out.cell (by show g < s;rw [<-j.out];exact au D)).trans D;have V:wr.cell? ⟨z,0,N⟩=S (I J f):=(n.out.cell (by show z < s;rw [<-j.out];exact au Q.out)).trans Q.out;have q:H (∀b:Bool,decide (l[k].1=f)=b->(b=YT->l.any (λx=>decide (x.1=f))=YT)/\(b=F->(l.take (k+1)).any (λx=>decide (x.1=f))=F)):=K (λb Y=>⟨λe=>Oq m (by rw [Y,e]),λe=>Aq m A.out (by rw [Y,e])⟩);obtain ⟨x,W⟩:=QE (l[k]);rw [W] at R U q;obtain ⟨P,d⟩:=x;simp only at R U;have h:=K (Mz P d z f wr V);have u:s<=wr.heap.size:=by have:=n.out.size;have:=j.out;omega
   clear W C D V A
   cases p:decide (P=f)
   case true=>
    have B:=K ((q.out YT p).1 rfl);rw [p] at h;clear q p;go_wp2_with (first | (go_at_call 267;refine h.out.mono ?_;rintro e w2 ⟨rfl,o⟩) | fail)
    go_ret;exact ⟨_,rfl,by omega,by rw [B.out];simp,by rw [j.out];exact n.out.trans (o.mono u)⟩
   have B:=K ((q.out F p).2 rfl);rw [p] at h;clear q p;go_wp2_with (first | (go_at_call 267;refine h.out.mono ?_;rintro e w2 ⟨rfl,o⟩) | fail)
   exact ⟨⟨k+1,by omega,by go_num,B,K (n.out.trans (o.mono u))⟩,by simp [Y9];omega⟩
  have G:k=l.length:=by omega
  subst G;rw [QZ] at A;go_wp2_with fail
  go_ret;exact ⟨_,rfl,by omega,by rw [A.out];rfl,by rw [j.out];exact n.out⟩
theorem sI(b:Nat)(l:List (Nat×QF))(v:QJ)(c a:Nat)(w:QI)(h:w.ownsRow b 218 2 v l.length (cI l))(d:w.cell? ⟨c,0,N⟩=S (I J a))(m:l.length<=255):Y8 Ys 266 #[v,.func (.func 267) #[] #[YV (S ⟨c,0,N⟩)]] w λe i=>e=YX (YW (l.any (λx=>decide (x.1=a))))/\Y6 w.heap.size w i:=by
 have g:=AB b l v c a w h d m;clear h d;go_enter func266,ntmps266;go_wp2_with fail
 refine g.mono ?_;rintro e i ⟨r,rfl,n,f,k⟩;have j:=K f;clear f g;go_wp2_with fail
 go_ret;exact ⟨by rw [<-j.out];rfl,k⟩
theorem Hu(t q O:Nat)(xk D:QF)(v vp:QJ)(l:List (Nat×QF))(f:List Nat)(x:Int×Int)(w:QI)(h:gf w q O xk v D x)(hv:w.ownsRow t 218 2 v l.length (cI l))(hp:bg w vp f.length 1 (bc f))(hl:l.length<=255)(a4:f.length<=255):Y8 Ys 220 #[YV (S ⟨q,0,N⟩),vp] w λe w'=>e=YX (YW (f.all λx=>l.any λr=>decide (r.1=x)))/\Y6 w.heap.size w w':=by
 obtain ⟨a,W,rfl,G⟩:=hp.one;have HV:=K hv;have HC:=K G;have HH:=K h
 obtain ⟨av,cv,rfl⟩:∃a c,v=L a l.length c:=by
  rcases hv.2 with ⟨e,h0⟩ | ⟨g,W,X,e,_⟩
  .exact ⟨_,_,by rw [h0];exact e⟩
  exact ⟨_,_,e⟩
 obtain ⟨s,hs⟩:=QE w.heap.size;have m:=K hs;have a0:q < s:=by rw [<-hs];exact dq h
 clear hv hs G h hp;go_enter func220,ntmps220;go_wp2_with fail
 go_loopw [6,9] (λ_ i w'=>∃k:Nat,k<=f.length/\i=I J k/\H ((f.take k).all (λx=>l.any λr=>decide (r.1=x))=YT)/\H (Y6 s w w')) (λ_ i _=>f.length - (Y9 i).toNat)
 case atStart=>exact ⟨0,QS _,rfl,K rfl,K (by rw [<-m.out];exact QQ _ _)⟩
 case round=>
  obtain ⟨k,hk,rfl,Q,A⟩:=hrel
  by_cases p:k < f.length
  .have a3:(k:Int) < (f.length:Int):=by omega
   obtain ⟨b,a2,rfl,Y,j⟩:=HC.out k p;rw [rE f k p] at j;have d0:wr.cell? ⟨b,a2+k,N⟩=S (I J (f[k]:Int)):=(A.out.cell (by show b < s;rw [<-m.out];exact Y)).trans j
   have C:H (∀c:Bool,l.any (λr=>decide (r.1=f[k]))=c->(c=YT->(f.take (k+1)).all (λx=>l.any λr=>decide (r.1=x))=YT)/\(c=F->f.all (λx=>l.any λr=>decide (r.1=x))=F)):=K (λc G=>⟨λe=>by
     rw [QV p,List.all_append,Q.out];simp only [VE,List.all_nil,SC,Sy];rw [G,e],λe=>by
     rw [List.all_eq_false]
     exact ⟨f[k],QU p,by rw [G,e];simp⟩⟩)
   obtain ⟨P,eP⟩:=QE (f[k]);rw [eP] at d0 C;obtain ⟨R,n⟩:=QE (wr.alloc (YU #[I J P] 3));have u:=QG n;have E:=QH n;have p0:R.cell? ⟨wr.heap.size,0,N⟩=S (I J P):=Q3 E _;have a1:s<=wr.heap.size:=by have:=A.out.size;have:=m.out;omega
   have U:H (Y6 s w R):=K (A.out.trans (u.mono a1))
   have k2:∀o:Obj,(wr.alloc o).cell? ⟨q,2,N⟩=S (L av l.length cv):=λo=>by
    have:=ae (w:=wr) ((QQ _ wr).alloc (QR _) o) (show wr.heap[q]? =S _ from (A.out.block q a0).trans HH.out);rw [Q3 this];rfl
   have d:=K (sI t l _ wr.heap.size P R (aB HV.out λg X e _=>ae (by rw [m.out];exact U.out) e) p0 hl);have M:s<=R.heap.size:=by have:=u.size;omega
   have B:=K n;clear n u E p0 eP j Q
   cases z:l.any (λr=>decide (r.1=P))
   case true=>
    have V:=K ((C.out YT z).1 rfl);rw [z] at d;clear C z;go_wp2_with fail
    rw [B.out];refine d.out.mono ?_;rintro e w2 ⟨rfl,y⟩;go_wp2_with fail
    exact ⟨⟨k+1,by omega,by go_num,V,K (U.out.trans (y.mono M))⟩,by simp [Y9];omega⟩
   have V:=K ((C.out F z).2 rfl);rw [z] at d;clear C z;go_wp2_with fail
   rw [B.out];refine d.out.mono ?_;rintro e w2 ⟨rfl,y⟩;go_wp2_with fail
   go_ret;exact ⟨by rw [V.out];rfl,by rw [m.out];exact U.out.trans (y.mono M)⟩
  have Z:k=f.length:=by omega
  subst Z;rw [QZ] at Q;go_wp2_with fail
  go_ret;exact ⟨by rw [Q.out];rfl,by rw [m.out];exact A.out⟩
theorem ml:prog.underlying 3=S (.int J):=underlying3
theorem Ak(w:QI):(zeroValue 181).run Ys w= .ok (YV N) w:=by kernel_rfl
theorem Jp{d n b Q:Nat}{q:Nat->Nat}{p:QJ}{a:aa}{m:aX}{o c j:QI}(h:bt d o n b q p a)(r:aA n o c)(_:c.heap[n]? =S (YU #[p,I J m.time,I J ((a.items.length:Int)+1),.map (S b)] 102 (0,0)))(s:Y6 c.heap.size c j)(l:m.id=a.items.length+1)(u:a.items.length < 4294967295):(Instr.mapUpdate 99 (.map (S b)) (I J m.id) (YV (S ⟨Q,0,N⟩))).run Ys j= .ok () (ChangeMaps.setBlock j b (.map (dY (λi=>if i=a.items.length then Q else q i) (a.live++[a.items.length])) (a.items.length+1))):=by
 have f:c.heap[b]? =S (.map (dY q a.live) a.items.length):=bm r h.map (λe=>by have:=h.map;unfold iu at this;rw [e,h.xx] at this;simp at this);have g:iu j b q a.live a.items.length:=ae s f;have:=OU (t:=99) (e:=181) ml underlying99 g (λi k=>dR k) u Q (λi=>if i=a.items.length then Q else q i) (λi k=>if_neg (by have:=dR k;omega)) (if_pos rfl);rw [l];exact this
theorem El{b l j:Nat}{q:Nat->Nat}{n:QJ}{a:aa}{f c m:QI}(h:bt b f l j q n a)(g:aA l f c)(k:Y6 c.heap.size c m)(o:Obj):Y6 b f (ChangeMaps.setBlock m j o):=by
 have d:c.heap[j]? =S (.map (dY q a.live) a.items.length):=bm g h.map (λe=>by have:=h.map;unfold iu at this;rw [e,h.xx] at this;simp at this);have i:b<=c.heap.size:=by rw [g.1];exact h.le
 exact ((g.below h.yyW).trans (k.mono i)).trans ((jo (ae k d) o).below h.xZ)
theorem vE(f b k:Nat)(q:Nat->Nat)(z:QJ)(a:aa)(m:aX)(v:QJ)(w:QI)(h:bt f w b k q z a)(B:Nat)(hv:w.ownsRow B 9 1 v m.xd.length (ah m.xd))(hz:dJ m)(x:m.id=a.items.length+1)(ht:1<=m.xd.length)(hn:a.items.length < 4294967295):Y8 Ys 154 #[YV (S ⟨b,0,N⟩),YZ (bh m v)] w λe w'=>e=YX (YY #[])/\∃q',bt f w' b k q' z (a.plus m)/\Y6 f w w':=by
 have G:=K h;have HV:=K hv;have HZ:=K hz;have d:∀o:Obj,(w.alloc o).heap[b]? =S (YU #[z,I J a.time,I J a.items.length,.map (S k)] 102 (0,0)):=λo=>ae ((QQ _ w).alloc (QR _) o) h.xx;have c1:∀o:Obj,(w.alloc o).cell? ⟨b,1,N⟩=S (I J a.time):=λo=>Q3 (d o) _;have c2:∀o:Obj,(w.alloc o).cell? ⟨b,2,N⟩=S (I J a.items.length):=λo=>Q3 (d o) _;have c3:∀o:Obj,(w.alloc o).cell? ⟨b,3,N⟩=S (.map (S k)):=λo=>Q3 (d o) _;have f1:∀o:Obj,(w.alloc o).frozen? ⟨b,1,N⟩=F:=λo=>RJ (d o) 1;have f2:∀o:Obj,(w.alloc o).frozen? ⟨b,2,N⟩=F:=λo=>RJ (d o) 2;have a0:=K d;obtain ⟨s,hs⟩:=QE w.heap.size;have V:b≠s:=by have:=h.yb;omega
 have P:=K hs;unfold bh;have u:=K x;clear h hv hz d hs x;go_enter func154,ntmps154;go_wp2_with fail
 obtain ⟨c,j⟩:=QE ((((w.alloc (YU #[I J m.id,I J m.time,T (bs m.xk),v,T (bs m.body)] 91)).setCell ⟨b,2,N⟩ (I J m.id)).setCell ⟨b,1,N⟩ (I J m.time)));rw [j];obtain ⟨D,i⟩:=QE (w.alloc (YU #[I J m.id,I J m.time,T (bs m.xk),v,T (bs m.body)] 91));have A:=QG i;have E:bt f D b k q z a:=G.out.xo A;have W:=QH i;have C:aA b D c:=by rw [<-j,i];exact ((aA.refl b D).setCell _).setCell _
 have U:c.heap[b]? =S (YU #[z,I J m.time,I J ((a.items.length:Int)+1),.map (S k)] 102 (0,0)):=by
  rw [<-j,i];have:=Ro _ b 1 _ _ (I J m.time) (Ro D b 2 _ _ (I J m.id) E.xx);refine Eq.trans this ?_;rw [u.out];rfl
 have r:c.heap[w.heap.size]? =S (YU #[I J m.id,I J m.time,T (bs m.xk),v,T (bs m.body)] 91 (0,0)):=bm C W (by rw [P.out];exact λe=>V e.symm);have d3:c.drew.cell? ⟨b,3,N⟩=S (.map (S k)):=by show c.cell? _=_;rw [Q3 U];rfl
 have e0:c.drew.cell? ⟨w.heap.size,0,N⟩=S (I J m.id):=by show c.cell? _=_;rw [Q3 r];rfl
 have e1:c.drew.cell? ⟨w.heap.size,1,N⟩=S (I J m.time):=by show c.cell? _=_;rw [Q3 r];rfl
 have e2:c.drew.cell? ⟨w.heap.size,2,N⟩=S (T (bs m.xk)):=by show c.cell? _=_;rw [Q3 r];rfl
 have e3:c.drew.cell? ⟨w.heap.size,3,N⟩=S v:=by show c.cell? _=_;rw [Q3 r];rfl
 have e4:c.drew.cell? ⟨w.heap.size,4,N⟩=S (T (bs m.body)):=by show c.cell? _=_;rw [Q3 r];rfl
 have y:bg c.drew v m.xd.length 1 (ah m.xd):=bq (aB HV.out λg a1 e _=>bm (C.drew) (ae A e) (λe'=>by rw [e',G.out.xx] at e;simp at e));have O:=K (tR m v c.drew y HZ.out);have p:=K (show c.drew.heap[b]? =_ from U);have n:=K C.drew;have l:=K E;have R:=K (show c.drew.heap[w.heap.size]? =_ from r);have M:=K (A.mono G.out.le);clear c1 c2 c3 f1 f2 j i U C E r W A y
 go_region_law (first
  | (go_simp;go_at_call 218;refine O.out.mono ?_;rintro e w2 ⟨Q,g,rfl,X,Y,Z,t⟩;have a2:w2.cell? ⟨b,3,N⟩=S (.map (S k)):=(Q3 (ae t p.out) _);have a3:w2.cell? ⟨w.heap.size,0,N⟩=S (I J m.id):=(Q3 (ae t R.out) _);have a4:=Jp (Q:=Q) l.out n.out p.out t u.out hn;have HR:=K (l.out.added n.out p.out t Y X Z ht);have HL:=K (El l.out n.out t);clear X Y Z t))
 all_goals
  refine RN (RP rfl _ _ _) rfl ?_;exact ⟨rfl,_,HR.out,(M.out).trans (HL.out _)⟩
theorem rB(f A m:Nat)(q:Nat->Nat)(P y:QJ)(a:aa)(b:Nat)(n:List Nat)(w:QI)(h:bt f w A m q P a)(D:a.Ok)(E:bg w y n.length 1 (bc n))(U:b<=4294967295)(Q:1<=n.length)(G:n.length<=255)(hn:a.items.length<=4294967295):Y8 Ys 156 #[YV (S ⟨A,0,N⟩),YZ #[I J b,y]] w λe V=>e=YX (YW (dw a b n))/\Y6 w.heap.size w V:=by
 rw [mx Q];obtain ⟨d,g⟩:=QE (w.alloc (YU #[I J b,y] 174));have p:=QG g;have o:bt f d A m q P a:=h.xo p;have z:=QH g;have X:d.drew.cell? ⟨A,3,N⟩=S (.map (S m)):=by show d.cell? _=_;rw [Q3 o.xx];rfl
 have Y:d.drew.cell? ⟨w.heap.size,0,N⟩=S (I J b):=by show d.cell? _=_;rw [Q3 z];rfl
 have Z:d.drew.cell? ⟨w.heap.size,1,N⟩=S y:=by show d.cell? _=_;rw [Q3 z];rfl
 have c:∀i∈a.live,i < 4294967296:=λi R=>by have:=dR R;omega
 have s:iu d.drew m q a.live a.items.length:=o.map;have r:=K g;have k:=K p
 by_cases l:1<=b/\b - 1∈a.live
 .have C:(Instr.lookup 99 (.map (S m)) (I J b) YT).run Ys d.drew= .ok (YY #[YV (S ⟨q (b - 1),0,N⟩),YW YT]) d.drew:=by
   have:=rA (t:=99) (e:=181) ml underlying99 s c (b - 1) (by omega) l.2 YT;rw [show ((b - 1:Nat):Int)+1=(b:Int) by omega] at this
   exact this
  rw [decide_eq_true l,Sy];obtain ⟨_,v,x,M,O⟩:=o.xu (b - 1) l.2;have B:=K (Hu f (q (b - 1)) _ _ _ v y (a.xq (b - 1)) n x d.drew M O (E.below p.drew) (by have:=lz D (b - 1);omega) G);clear M O o z p s c E h g;go_enter func156,ntmps156;go_wp2_with fail
  rw [r.out];go_region
  all_goals
   go_wp2_with fail
   refine B.out.mono ?_;rintro e W ⟨rfl,j⟩;go_wp2_with fail
   go_ret;exact ⟨rfl,k.out.trans ((show Y6 d.heap.size d W from ⟨j.os,j.tape,j.output,j.size,j.block⟩).mono k.out.size)⟩
 have u:b=0\/b - 1 ∉ a.live:=by
  by_cases e:b=0
  .exact Y4 e
  exact Y5 λh=>l ⟨by omega,h⟩
 have C:(Instr.lookup 99 (.map (S m)) (I J b) YT).run Ys d.drew= .ok (YY #[YV N,YW F]) d.drew:=by
  by_cases e:b=0
  .subst e;exact AI (t:=99) (e:=181) ml underlying99 (Ak _) s c YT
  have:=Fm (t:=99) (e:=181) ml underlying99 (Ak _) s c (b - 1) (by omega) (u.resolve_left e) YT;rw [show ((b - 1:Nat):Int)+1=(b:Int) by omega] at this
  exact this
 rw [decide_eq_false l,Tt];clear o z p s c E h g u l;go_enter func156,ntmps156;go_wp2_with fail
 rw [r.out];go_region
 all_goals
  go_wp2_with fail
  go_ret;exact ⟨rfl,k.out.drew⟩
theorem Md{p:Nat}{w a:QI}(h:pE p w.drew a):pE p w a:=⟨h.size,h.block,h.still⟩
theorem qP(j O l:Nat)(q:Nat->Nat)(vr Z:QJ)(d:aa)(b:Nat)(n:List Nat)(w:QI)(h:bt j w O l q vr d)(a8:d.Ok)(hp:bg w Z n.length 1 (bc n))(P:b∈d.live)(a9:n.length<=255)(hn:d.items.length<=4294967295):Y8 Ys 157 #[YV (S ⟨O,0,N⟩),YZ #[I J ((b:Int)+1),Z]] w λe w'=>∃Y,e=YX Y/\w'.ownsRow w.heap.size 9 1 Y (eH (d.xq b) n).length (ah (eH (d.xq b) n))/\bt j w' O l q vr (d.outs b n)/\Y6 j w w':=by
 have a6:=h.le;obtain ⟨o,z⟩:=QE (w.alloc (YU #[I J ((b:Int)+1),Z] 174));have B0:=QG z;have U:bt j o O l q vr d:=h.xo B0;have W:=QH z;have c3:o.drew.cell? ⟨O,3,N⟩=S (.map (S l)):=by show o.cell? _=_;rw [Q3 U.xx];rfl
 have e0:o.drew.cell? ⟨w.heap.size,0,N⟩=S (I J ((b:Int)+1)):=by show o.cell? _=_;rw [Q3 W];rfl
 have e1:o.drew.cell? ⟨w.heap.size,1,N⟩=S Z:=by show o.cell? _=_;rw [Q3 W];rfl
 have s:∀i∈d.live,i < 4294967296:=λi hi=>by have:=dR hi;omega
 have hM:iu o.drew l q d.live d.items.length:=U.map;have b4:=dR P
 have b5:(Instr.lookup 99 (.map (S l)) (I J ((b:Int)+1)) F).run Ys o.drew= .ok (YV (S ⟨q b,0,N⟩)) o.drew:=
  rA (t:=99) (e:=181) ml underlying99 hM s b (by omega) P F
 obtain ⟨X,v,x,Q,hr⟩:=U.xu b P;have a1:=K (AH j (q b) _ _ _ v Z (d.xq b) n x o.drew Q X hr (hp.below B0.drew) (by have:=lz a8 b;omega) a9);have m:=K U;have E:=K B0;have a3:=K z;have a4:=K W;have a0:=K Q;have HL:=K s;have a7:q b≠w.heap.size:=λe=>by unfold gf at Q;rw [e,W] at Q;simp at Q
 clear Q hr U W B0 hM s hp h z;go_enter func157,ntmps157;go_wp2_with fail
 rw [a3.out];go_region
 all_goals
  go_wp2_with fail
  refine a1.out.mono ?_;rintro e k ⟨Y,vs,rfl,B,A,C,p⟩
  obtain ⟨gs,cs,es⟩:∃a c,vs= .slice a (cH (d.xq b) n).length c:=by
   rcases C.2 with ⟨e,h0⟩ | ⟨g,b2,a5,e,_⟩
   .exact ⟨_,_,by rw [h0];exact e⟩
   exact ⟨_,_,e⟩
  subst es;have f:pE (q b) o k:=Md p;have f2:k.cell? ⟨q b,2,N⟩=S (.slice gs (cH (d.xq b) n).length cs):=Q3 A _;have G:H (Y6 j w k):=K ((E.out.mono a6).trans (f.below X m.out.le))
  by_cases hs:cH (d.xq b) n=[]
  .obtain ⟨m1,y⟩:=m.out.yy P f hs;have u:(cH (d.xq b) n).length=0:=by rw [hs];rfl
   have r:∀R:Za,(Builtin.delete_ #[99,3] R #[.map (S l),I J ((b:Int)+1)]).run Ys k.drew= .ok (YY #[]) (ChangeMaps.setBlock k.drew l (.map (dY q (d.live.filter λi=>decide (i≠b))) d.items.length)):=λR=>
    MW (t:=99) (e:=181) ml underlying99 (w:=k.drew) (c:=d.items.length) m1 HL.out (wP d) b (by omega) P
   have A3:H (bt j (ChangeMaps.setBlock k.drew l (.map (dY q (d.live.filter λi=>decide (i≠b))) d.items.length)) O l q vr (d.outs b n)):=K ⟨y.xx,y.map,y.yyW,y.xZ,y.one,y.xu⟩;have S3:=jo (w:=k.drew) m1 (.map (dY q (d.live.filter λi=>decide (i≠b))) d.items.length);have D:=K (aB (w:=k.drew) B.drew λg a5 e _=>bm S3 e λe'=>by rw [e'] at e;rw [show k.drew.heap[l]? =_ from m1] at e;simp at e);have V:=K (G.out.drew.trans (S3.below m.out.xZ));obtain ⟨w3,M⟩:∃w3,ChangeMaps.setBlock k.drew l (.map (dY q (d.live.filter λi=>decide (i≠b))) d.items.length)=w3:=⟨_,rfl⟩;rw [M] at A3 D V;have b0:∀R:Za,(Builtin.delete_ #[99,3] R #[.map (S l),I J ((b:Int)+1)]).run Ys k.drew= .ok (YY #[]) w3:=λR=>by rw [r R,M]
   have b1:k.drew.cell? ⟨O,3,N⟩=S (.map (S l)):=by
    show k.cell? _=_;rw [Q3 (jj f m.out.xx (λe=>by have:=a0.out;unfold gf at this;rw [<-e,m.out.xx] at this;simp at this))];rfl
   have b3:k.drew.cell? ⟨w.heap.size,0,N⟩=S (I J ((b:Int)+1)):=by
    show k.cell? _=_;rw [Q3 (jj f a4.out (λe=>a7 e.symm))];rfl
   rw [u] at f2;clear p f A C B y m1 S3 G u M r;go_wp2_with fail
   go_region
   all_goals
    go_wp2_with fail
    go_ret;exact ⟨Y,rfl,D.out.mono (by have:=E.out.size;exact this),A3.out,V.out⟩
  have y:=K (m.out.left P f A C hs)
  have u:(((cH (d.xq b) n).length:Int) == 0)=F:=by
   rw [beq_eq_false_iff_ne];intro e;exact hs (List.eq_nil_of_length_eq_zero (by omega))
  have a2:=K B;clear p f A C B;go_wp2_with fail
  go_ret;exact ⟨Y,rfl,a2.out.mono (by have:=E.out.size;exact this),y.out,G.out⟩
def oi(base pb mb:Nat)(q:Nat->Nat)(vr:QJ)(S:aa)(o:Option aa)(w:QI)(e:Zb)(w':QI):Prop:=
 ((o=N/\e=YX (YW F)/\bt base w' pb mb q vr S)\/∃S' q',o=some S'/\e=YX (YW YT)/\bt base w' pb mb q' vr S')/\Y6 base w w'
theorem bt.drewN{b d c:Nat}{q:Nat->Nat}{e:QJ}{a:aa}{w:QI}(h:bt b w d c q e a)(n:Nat):bt b (w.drewN n) d c q e a:=h.xo (an n _ _)
theorem DT(b l r:Nat)(q:Nat->Nat)(s:QJ)(a:aa)(m:aX)(v:QJ)(w:QI)(h:bt b w l r q s a)(B:Nat)(y:w.ownsRow B 9 1 v m.xd.length (ah m.xd))(P:dJ m)(O:1<=m.xd.length)(M:a.items.length < 4294967295):Y8 Ys 97 #[YV (S ⟨l,0,N⟩),YZ (bh m v)] w (oi b l r q s a (a.xC m) w):=by
 have k:=h.le;obtain ⟨t,c⟩:=QE (w.alloc (YU #[I J m.id,I J m.time,T (bs m.xk),v,T (bs m.body)] 91));have o:=QG c;have n:bt b t l r q s a:=h.xo o;have x:=QH c;have U:t.cell? ⟨l,1,N⟩=S (I J a.time):=Q3 n.xx _;have V:t.cell? ⟨l,2,N⟩=S (I J a.items.length):=Q3 n.xx _;obtain ⟨W,X,Y,Z,e4⟩:=QO x;have f:=K n;have i:=K o;have j:=K c;have E:=K (aB y λg u e _=>ae o e);have G:=K P;unfold bh;clear n x o h c y;have hw:IntKind.i64.wrap ((a.items.length:Int)+1)=(a.items.length:Int)+1:=by rw [QY];omega
 by_cases d:m.id=a.items.length+1
 .by_cases p:a.time<=m.time
  .have HT:H (a.xC m=S (a.plus m)):=K (by unfold aa.xC aa.plus;rw [decide_eq_true d,decide_eq_true p];rfl);have z:((m.id:Int) != (a.items.length:Int)+1)=F:=by rw [d];simp
   have R:¬m.time < a.time:=by omega
   have D:=K d;clear d p;go_enter func97,ntmps97;go_wp2_with fail
   rw [j.out];go_quiet (fail)
   go_wp2_with fail
   refine (vE b l r q s a m v _ (f.out.drewN _) B (aB E.out λg u e _=>ae (an _ _ _) e) G.out D.out O M).mono ?_;rintro e w2 ⟨rfl,Q,A,C⟩;go_wp2_with fail
   go_ret;exact ⟨Y5 ⟨_,Q,HT.out,rfl,A⟩,((i.out.mono k).trans (an _ _ _)).trans C⟩
  have HT:H (a.xC m=N):=K (by unfold aa.xC;rw [decide_eq_false p,SG];rfl);have z:((m.id:Int) != (a.items.length:Int)+1)=F:=by rw [d];simp
  have R:m.time < a.time:=by omega
  clear d p;go_enter func97,ntmps97;go_wp2_with fail
  rw [j.out];go_quiet (fail)
  go_wp2_with fail
  go_ret;exact ⟨Y4 ⟨HT.out,rfl,f.out.drewN _⟩,(i.out.mono k).trans (an _ _ _)⟩
 have HT:H (a.xC m=N):=K (by unfold aa.xC;rw [decide_eq_false d,Tt];rfl);have z:((m.id:Int) != (a.items.length:Int)+1)=YT:=by rw [bne_iff_ne];omega
 clear d;go_enter func97,ntmps97;go_wp2_with fail
 rw [j.out];go_quiet (fail)
 go_wp2_with fail
 go_ret;exact ⟨Y4 ⟨HT.out,rfl,f.out.drewN _⟩,(i.out.mono k).trans (an _ _ _)⟩
theorem DS(b j s:Nat)(q:Nat->Nat)(t i:QJ)(a:aa)(c:Nat)(g:List Nat)(w:QI)(h:bt b w j s q t a)(p:a.Ok)(E:bg w i g.length 1 (bc g))(C:c<=4294967295)(U:1<=g.length)(r:g.length<=255)(V:a.items.length<=4294967295):Y8 Ys 99 #[YV (S ⟨j,0,N⟩),YZ #[I J c,i]] w (oi b j s q t a (a.xE c g) w):=by
 have D:=h.le;obtain ⟨R,d⟩:=QE (w.alloc (YU #[I J c,i] 174));have k:=QG d;have u:bt b R j s q t a:=h.xo k;have A:=QH d;have e0:∀o:Obj,o=YU #[I J c,i] 174->(w.alloc o).cell? ⟨w.heap.size,0,N⟩=S (I J c):=λo ho=>by rw [ho,d,Q3 A];rfl
 have Y:=K (rB b j s q t i a c g R u p (E.below k) C U r V);have l:=K u;have v:=K k;have y:=K d;have z:=K A;have x:=K (E.below k);clear u k d A E h e0;go_enter func99,ntmps99;go_wp2_with fail
 rw [y.out];refine Y.out.mono ?_;rintro e G ⟨rfl,f⟩;have M:=ae f z.out;have y0:G.cell? ⟨w.heap.size,0,N⟩=S (I J c):=Q3 M _;have y1:G.cell? ⟨w.heap.size,1,N⟩=S i:=Q3 M _;have O:=K (l.out.xo f);have Z:=K (x.out.below f);have P:=K (((v.out.mono D)).trans (f.mono l.out.le));clear M f
 cases n:dw a c g
 case false=>
  have HT:H (a.xE c g=N):=K (by unfold aa.xE;rw [n];rfl);clear n;go_wp2_with fail
  go_ret;exact ⟨Y4 ⟨HT.out,rfl,O.out⟩,P.out⟩
 have HT:H (a.xE c g=S (a.outs (c - 1) g)):=K (by unfold aa.xE;rw [n];rfl);rw [mx U,Rk,decide_eq_true_eq] at n;obtain ⟨⟨B,m⟩,_⟩:=n;have Q:=K (qP b j s q t i a (c - 1) g G O.out p Z.out m r V);rw [show ((c - 1:Nat):Int)+1=(c:Int) by omega] at Q
 clear B m;go_wp2_with fail
 refine Q.out.mono ?_;rintro e w3 ⟨vn,rfl,_,W,X⟩;go_wp2_with fail
 go_ret;exact ⟨Y5 ⟨_,q,HT.out,rfl,W⟩,P.out.trans X⟩
theorem wV(l:List QF)(a:∀t∈l,t.length<=255):(jx l).length<=14+257 * l.length:=by
 unfold jx;rw [RI,show Ng.length=14 from rfl]
 have:(l.flatMap λt=>[13,10]++t).length<=257 * l.length:=by
  induction l with
  | nil=>simp
  | cons x l ih=>
   have c:=ih λt b=>a t (by simp [b]);have d:=a x (by simp);rw [List.flatMap_cons,RI,RI];simp only [RQ,List.length_nil];omega
 omega
theorem Dg{a:List QF}(b:∀t∈a,t.length<=255)(i:Nat):(a.getD i []).length<=255:=by
 rw [List.getD_eq_getElem?_getD]
 cases h:a[i]? with
 | none=>simp
 | some x=>exact b x (SB h)
theorem oD{a:aa}{d:Nat}{b:List Nat}(e:cC b=YT)(c:dw a d b=YT):eH (a.xq (d - 1)) b=b.map λi=>(a.xr (d - 1)).xd.getD i []:=by
 unfold dw at c;rw [Rk,Rb] at c;unfold eH aa.xq;refine I7 _ _ _ e λx f=>?_;have:=c.2 x f;simpa using this
theorem sg{a:aa}{b c:Nat}{d:List Nat}(g:cC d=YT)(e:dw a c d=YT)(f:a.time<=b):((a.xr (c - 1)).xk=[]->a.xB b c d=S (aa.outs ⟨a.items,b⟩ (c - 1) d))/\
  ((a.xr (c - 1)).xk≠[]->a.xB b c d=S ((aa.outs ⟨a.items,b⟩ (c - 1) d).plus ⟨a.items.length+1,b,[],[(a.xr (c - 1)).xk],jx (eH (a.xq (c - 1)) d)⟩)):=by
 unfold aa.xB;rw [e,decide_eq_true f];simp only [SC,if_true,aa.failed]
 constructor
 .intro h;rw [if_pos h];rfl
 intro h;rw [if_neg h,oD g e,Fp];simp [aa.plus,aa.outs]
theorem zY(j k z:Nat)(q:Nat->Nat)(Q O:QJ)(d:aa)(f y:Nat)(n:List Nat)(w:QI)(h:bt j w k z q Q d)(G:d.Ok)(B:Nat)(hp:w.ownsRow B 3 1 O n.length (bc n))(d2:y<=4294967295)(h1:1<=n.length)(a7:n.length<=255)(hr:cC n=YT)(hT:f<=1000000000)(hn:d.items.length < 4294967295):Y8 Ys 101 #[YV (S ⟨k,0,N⟩),I J f,YZ #[I J y,O]] w (oi j k z q Q d (d.xB f y n) w):=by
 have d3:=h.le;obtain ⟨W0,D⟩:=QE (w.alloc (YU #[I J y,O] 174));have B0:=QG D;have A0:bt j W0 k z q Q d:=h.xo B0;have X0:=QH D;have O0:=aB hp λg R e _=>ae B0 e;have HM:=K (rB j k z q Q O d y n W0 A0 G (bq O0) d2 h1 a7 (by omega));have a0:=K A0;have b1:=K B0;have c2:=K D;have c7:=K X0;have b5:=K O0;have d5:k < w.heap.size:=h.yb;clear A0 B0 D X0 hp h O0;go_enter func101,ntmps101;go_wp2_with fail
 rw [c2.out];refine HM.out.mono ?_;rintro e V ⟨rfl,u⟩;have x0:=ae u c7.out;have y0:V.cell? ⟨w.heap.size,0,N⟩=S (I J y):=Q3 x0 _;have y1:V.cell? ⟨w.heap.size,1,N⟩=S O:=Q3 x0 _;have c8:=K x0;have A2:=a0.out.xo u;have c1:V.cell? ⟨k,1,N⟩=S (I J d.time):=Q3 A2.xx _;have g1:V.frozen? ⟨k,1,N⟩=F:=RJ A2.xx 1;have p:=K A2;have O2:=K (aB b5.out λg R e _=>ae u e);have B2:=K (((b1.out.mono d3)).trans (u.mono a0.out.le));clear x0 u A2
 cases X:dw d y n
 case false=>
  have HT:H (d.xB f y n=N):=K (by unfold aa.xB;rw [X];rfl);clear X;go_wp2_with fail
  go_ret;exact ⟨Y4 ⟨HT.out,rfl,p.out⟩,B2.out⟩
 by_cases C:d.time<=f
 .have A:=K (sg hr X C);have a3:=K (oD hr X);rw [mx h1,Rk,decide_eq_true_eq] at X;obtain ⟨⟨d1,r⟩,_⟩:=X;obtain ⟨b,rfl⟩:∃b,y=b+1:=⟨y - 1,by omega⟩
  rw [Nat.add_sub_cancel] at A a3 r;have d4:¬f < d.time:=by omega
  clear C;go_wp2_with fail
  obtain ⟨s,M⟩:=QE (V.setCell ⟨k,1,N⟩ (I J f));rw [M];have S3:aA k V s:=by rw [<-M];exact (aA.refl _ _).setCell _
  have P3:s.heap[k]? =S (YU #[Q,I J f,I J d.items.length,.map (S z)] 102 (0,0)):=by
   rw [<-M];exact Ro V k 1 _ _ (I J f) p.out.xx
  have Y:bt j s.drew k z q Q ⟨d.items,f⟩:=(p.out.yv S3 P3).xo ((QQ _ _).drew);have X3:s.drew.heap[w.heap.size]? =S (YU #[I J ((b:Int)+1),O] 174 (0,0)):=bm S3 c8.out (by omega);have O3:s.drew.ownsRow B 3 1 O n.length (bc n):=aB O2.out λg R e _=>bm S3 e λe'=>by rw [e',p.out.xx] at e;simp at e
  have c3:s.drew.cell? ⟨k,3,N⟩=S (.map (S z)):=Q3 Y.xx _;have z0:s.drew.cell? ⟨w.heap.size,0,N⟩=S (I J ((b:Int)+1)):=Q3 X3 _;have z1:s.drew.cell? ⟨w.heap.size,1,N⟩=S O:=Q3 X3 _;have a5:=dR r
  have d8:(Instr.lookup 99 (.map (S z)) (I J ((b:Int)+1)) F).run Ys s.drew= .ok (YV (S ⟨q b,0,N⟩)) s.drew:=
   rA (t:=99) (e:=181) ml underlying99 Y.map (λi hi=>by have:=dR hi;simp only at this;omega) b (by omega) r F
  obtain ⟨_,v,_,hb,_⟩:=Y.xu b r;have m1:s.drew.cell? ⟨q b,1,N⟩=S (T (bs (d.xr b).xk)):=Q3 hb _;have b4:=K (qP j k z q Q O ⟨d.items,f⟩ b n s.drew Y (G.time f) (bq O3) r a7 (by show d.items.length<=_;omega));have d0:=K (B2.out.trans ((S3.below p.out.yyW).drew));have a4:H (dJ (d.xr b)):=K (by rw [fQ a5];exact (G.sz _ (QU a5)).1);have b7:=K (lz G b);clear M S3 P3 Y X3 O3 hb y0 y1 c1 g1 d1 r;obtain ⟨a,eF⟩:=QE ((d.xr b).xk);rw [eF] at m1 A;go_region
  all_goals
   go_wp2_with fail
   refine b4.out.mono ?_;rintro e m ⟨vn,rfl,a8,Z,B4⟩;have c9:=Z.le
   have c4:m.drew.cell? ⟨k,2,N⟩=S (I J (d.items.length:Int)):=by
    show m.cell? _=_;rw [Q3 Z.xx,dV];rfl
   have c5:∀o:Obj,(m.alloc o).cell? ⟨k,2,N⟩=S (I J (d.items.length:Int)):=λo=>by
    have:=ae ((QQ _ m).alloc (QR _) o) Z.xx;rw [Q3 this,dV];rfl
   have c0:=K a8;have a1:=K Z;have a2:=K (d0.out.trans B4);clear a8 Z B4
   by_cases U:a=[]
   .have tF:(bs a).toList.isEmpty=YT:=by rw [SF,U];rfl
    have HR:=K (A.out.1 U);clear U;go_wp2_with fail
    go_ret;exact ⟨Y5 ⟨_,q,HR.out,rfl,a1.out⟩,a2.out⟩
   have tF:(bs a).toList.isEmpty=F:=by
    rw [SF]
    cases a with
    | nil=>exact absurd rfl U
    | cons x l=>rfl
   have HR:=K (A.out.2 U);have d9:IntKind.i64.wrap ((d.items.length:Int)+1)=(d.items.length:Int)+1:=by rw [QY];omega
   obtain ⟨c,eN⟩:=QE (eH (d.xq b) n);have d6:c.length<=10:=by rw [<-eN];have:=wx (d.xq b) n;have:=b7.out;omega
   have a6:∀t∈c,t.length<=255:=by
    intro t ht;rw [<-eN,a3.out,Rl] at ht;obtain ⟨i,_,rfl⟩:=ht;exact Dg a4.out.2.2.2.2.1 i
   have d7:=wV c a6;have P:m.ownsRow s.drew.heap.size 9 1 vn c.length (ah c):=by rw [<-eN];exact c0.out
   have b6:H (∀W:QI,Y6 m.heap.size m W->Y8 Ys 158 #[vn] W λe w'=>e=YX (T (bs (jx c)))/\W=w'):=K (λW hW=>zR c vn W (bq (aB P λg R e _=>ae hW e)) (by omega) a6);obtain ⟨W5,E⟩:=QE ((m.alloc (YU #[T (bs a)] 9)).drew);have B5:Y6 m.heap.size m W5:=by rw [<-E];exact ((QQ _ _).alloc (QR _) _).drew
   have X5:W5.heap[m.heap.size]? =S (YU #[T (bs a)] 9 (0,0)):=by rw [<-E];exact Q0 m _
   have O5:W5.ownsRow m.heap.size 9 1 (L (S ⟨m.heap.size,0,N⟩) 1 1) 1 (ah [a]):=
    ⟨rfl,Y5 ⟨m.heap.size,1,_,rfl,QR _,X5,QR _,by unfold maxLen;omega,rfl,rfl⟩⟩
   have b0:=K (vE j k z q Q (aa.outs ⟨d.items,f⟩ b n) ⟨d.items.length+1,f,[],[a],jx c⟩ (L (S ⟨m.heap.size,0,N⟩) 1 1) W5 (a1.out.xo B5) m.heap.size O5
    ⟨by show d.items.length+1<=_;omega,by show f<=_;omega,by simp,by simp,λt ht=>by simp at ht;subst ht;rw [<-eF];exact a4.out.2.2.1,by show (jx c).length<=_;omega⟩ (by rw [dV]) (by simp) (by rw [dV];exact hn))
   have b2:=K (a2.out.trans (B5.mono c9));have c6:=K E;have HF:=K U;rw [eN] at HR;clear U eF B5 X5 O5 P E eN;go_wp2_with fail
   go_region_law (first
    | (go_simp;go_at_call 158;refine (b6.out _ (by first | exact (QQ _ _).drew | exact ((QQ _ _).alloc (QR _) _).drew | exact ((QQ _ _).drew).alloc (QR _) _)).mono ?_;rintro e w5 ⟨rfl,rfl⟩)
    | (go_simp;go_at_call 154;rw [c6.out];refine b0.out.mono ?_;rintro e w6 ⟨rfl,q',A6,B6⟩;have a9:=K A6;have b3:=K B6;clear A6 B6))
   all_goals
    go_wp2_with fail
    go_ret;exact ⟨Y5 ⟨_,_,HR.out,rfl,a9.out⟩,b2.out.trans b3.out⟩
 have HT:H (d.xB f y n=N):=K (by unfold aa.xB;rw [decide_eq_false C,SG];rfl);have d4:f < d.time:=by omega
 clear C;go_wp2_with fail
 go_ret;exact ⟨Y4 ⟨HT.out,rfl,p.out⟩,B2.out⟩
theorem pY{l:QF}{m:aX}(h:bP l=S m):cY m=YT:=by
 unfold bP at h
 split at h
 .cases h
 split at h
 .rw [VT] at h;obtain ⟨a,_,h⟩:=h
  split at h
  .cases h;assumption
  cases h
 cases h
theorem tP{m:aX}(h:cY m=YT):1<=m.xd.length/\m.xd.length<=10:=by
 unfold cY jh at h;simp only [Rk,decide_eq_true_eq] at h;exact ⟨h.1.2.1.1,h.1.2.1.2⟩
theorem wK{l:QF}{x:Nat×List Nat}(h:gG l=S x):cC x.2=YT:=by
 unfold gG at h;rw [VT] at h;obtain ⟨a,_,h⟩:=h
 split at h
 .rename_i b
  rw [Rk] at b
  cases h
  exact b.2
 cases h
theorem rN{l:QF}{b e:Nat}{c:List Nat}(h:bX l=S (b,e,c)):cC c=YT:=by
 unfold bX at h
 split at h
 .cases h
 split at h
 .rw [VT] at h;obtain ⟨a,_,h⟩:=h;rw [VT] at h;obtain ⟨x,d,h⟩:=h
  split at h
  .cases h;exact wK d
  cases h
 cases h
theorem QD{a c:aa}{m:aX}(b:a.Ok)(f:dJ m)(e:1<=m.xd.length/\m.xd.length<=10)(h:a.xC m=S c):c.Ok:=by
 unfold aa.xC at h
 split at h
 .rename_i d
  rw [Rk,decide_eq_true_eq] at d
  cases h
  exact b.plus d.1 f e.1 e.2
 cases h
theorem QC{a c:aa}{d:Nat}{e:List Nat}(b:a.Ok)(h:a.xE d e=S c):c.Ok:=by
 unfold aa.xE at h
 split at h
 .cases h;exact b.outs _ _
 cases h
theorem QB{a k:aa}{b c:Nat}{e:List Nat}(d:a.Ok)(n:cC e=YT)(s:b<=1000000000)(w:a.items.length < 4294967295)(h:a.xB b c e=S k):k.Ok:=by
 have f:dw a c e=YT/\a.time<=b:=by
  unfold aa.xB at h
  split at h
  .rename_i f
   rwa [Rk,decide_eq_true_eq] at f
  cases h
 obtain ⟨q,r⟩:=sg n f.1 f.2;have m:aa.Ok (aa.outs ⟨a.items,b⟩ (c - 1) e):=(d.time b).outs _ _
 by_cases l:(a.xr (c - 1)).xk=[]
 .rw [q l] at h;cases h;exact m
 rw [r l] at h
 cases h
 have g:c - 1 < a.items.length:=by
  have:=f.1;unfold dw at this;simp only [Rk,decide_eq_true_eq] at this;omega
 have o:dJ (a.xr (c - 1)):=by rw [fQ g];exact (d.sz _ (QU g)).1
 have v:(eH (a.xq (c - 1)) e).length<=10:=by have:=wx (a.xq (c - 1)) e;have:=lz d (c - 1);omega
 have p:∀t∈eH (a.xq (c - 1)) e,t.length<=255:=by
  intro t j;rw [oD n f.1,Rl] at j;obtain ⟨i,_,rfl⟩:=j;exact Dg o.2.2.2.2.1 i
 have u:=wV _ p;refine m.plus (by rw [dV]) ⟨by show a.items.length+1<=_;omega,by show b<=_;omega,by simp,by simp,λt j=>by simp at j;subst j;exact o.2.2.1,by show (jx _).length<=_;omega⟩ (by simp) (by simp)
theorem fu{w:QI}{b i n:Nat}{e:Za}{v:QJ}{j:List QJ}(h:w.ownsRow b e i v n j):∃a m c,v=L a m c:=by
 rcases h.2 with ⟨e,_⟩ | ⟨g,d,f,e,_⟩
 .exact ⟨_,_,_,e⟩
 exact ⟨_,_,_,e⟩
theorem Es(m V mb:Nat)(q:Nat->Nat)(vr:QJ)(a:aa)(l:QF)(n:Int)(w:QI)(h:bt m w V mb q vr a)(y:a.Ok)(hl:l.length<=1048576)(hm:w.cell? ⟨0,0,N⟩=S (I J n))(hn:a.items.length < 4294967295):Y8 Ys 54 #[YV (S ⟨V,0,N⟩),T (bs l)] w λe w'=>oi m V mb q vr a (a.takes l) w e w'/\∀f,a.takes l=S f->f.Ok:=by
 have a1:=h.le;have HH:=K h;have r:=K (qE a l);have HM:=K (rP l n w hl hm);clear h hm;go_enter func54,ntmps54;go_wp2_with fail
 refine HM.out.mono ?_;rintro e w1 ⟨d,M⟩;have W:=K (HH.out.xo M);have B1:=K M;clear M
 rcases d with ⟨i,rfl⟩ | ⟨U,v,i,rfl,B,hz⟩
 .rw [i] at r;simp only [bh,oQ];clear i;go_wp2_with fail
  refine (DC l _ hl).mono ?_;rintro e w3 ⟨d,O⟩;have X:=K ((W.out.xo ((QQ _ _).alloc (QR _) _)).xo O);have Y:=K (((B1.out.mono a1).alloc W.out.le _).trans (O.mono (Rn W.out.le (by simp))));clear O
  rcases d with ⟨i,rfl⟩ | ⟨R,ps,v,i,rfl,B,u,z,A,Q⟩
  .rw [i] at r;clear i;go_wp2_with fail
   refine (zD l _ hl).mono ?_;rintro e w5 ⟨d,P⟩;have A5:=K ((X.out.xo ((QQ _ _).alloc (QR _) _)).xo P);have Z:=K ((Y.out.alloc X.out.le _).trans (P.mono (Rn X.out.le (by simp))));clear P
   rcases d with ⟨i,rfl⟩ | ⟨b,R,ps,v,i,rfl,⟨B,u,z,A,Q⟩,hT⟩
   .rw [i] at r;have c:H (a.takes l=N):=K r.out;clear i r;go_wp2_with fail
    go_ret;exact ⟨⟨Y4 ⟨c.out,rfl,A5.out.xo ((QQ _ _).alloc (QR _) _)⟩,Z.out.alloc A5.out.le _⟩,λf C=>by rw [c.out] at C;cases C⟩
   have p:=rN i;rw [i] at r;have c:H (a.takes l=a.xB b R ps):=K r.out;obtain ⟨av,nv,cv,rfl⟩:=fu B;obtain ⟨W6,G⟩:=QE (w5.alloc (YU #[I J R,L av nv cv] 174));have B6:=QG G;have HT:=K (zY m V mb q vr _ a b R ps W6 (A5.out.xo B6) y _ (aB B λg a0 e _=>ae B6 e) u z A p hT hn);have a4:=K (Z.out.trans (B6.mono A5.out.le));have k:H (∀f,a.takes l=S f->f.Ok):=K (λf C=>QB y p hT hn (by rw [<-c.out];exact C));have a7:=K G;clear i r B6 G B u z A Q p hT;go_wp2_with fail
   rw [a7.out];refine HT.out.mono ?_;rintro e w7 ⟨d,o⟩;have j:=K (a4.out.trans o);clear o
   rcases d with ⟨s,rfl,t⟩ | ⟨f,q',s,rfl,t⟩
   .go_wp2_with fail
    go_ret;exact ⟨⟨Y4 ⟨c.out.trans s,rfl,t⟩,j.out⟩,k.out⟩
   go_wp2_with fail
   go_ret;exact ⟨⟨Y5 ⟨f,q',c.out.trans s,rfl,t⟩,j.out⟩,k.out⟩
  rw [i] at r;have c:H (a.takes l=a.xE R ps):=K r.out;obtain ⟨av,nv,cv,rfl⟩:=fu B;obtain ⟨W4,E⟩:=QE (w3.alloc (YU #[I J R,L av nv cv] 174));have B4:=QG E;have HT:=K (DS m V mb q vr _ a R ps W4 (X.out.xo B4) y (bq (aB B λg a0 e _=>ae B4 e)) u z A (by omega));have a3:=K (Y.out.trans (B4.mono X.out.le));have k:H (∀f,a.takes l=S f->f.Ok):=K (λf C=>QC y (by rw [<-c.out];exact C));have a6:=K E;clear i r B4 E B u z A Q;go_wp2_with fail
  rw [a6.out];refine HT.out.mono ?_;rintro e w7 ⟨d,o⟩;have j:=K (a3.out.trans o);clear o
  rcases d with ⟨s,rfl,t⟩ | ⟨f,q',s,rfl,t⟩
  .go_wp2_with fail
   go_ret;exact ⟨⟨Y4 ⟨c.out.trans s,rfl,t⟩,j.out⟩,k.out⟩
  go_wp2_with fail
  go_ret;exact ⟨⟨Y5 ⟨f,q',c.out.trans s,rfl,t⟩,j.out⟩,k.out⟩
 rw [i] at r;have c:H (a.takes l=a.xC U):=K r.out;have x:=tP (pY i);obtain ⟨av,nv,cv,rfl⟩:=fu B;obtain ⟨W2,D⟩:=QE (w1.alloc (YU #[I J U.id,I J U.time,T (bs U.xk),L av nv cv,T (bs U.body)] 91));have B2:=QG D;have HT:=K (DT m V mb q vr a U _ W2 (W.out.xo B2) _ (aB B λg a0 e _=>ae B2 e) hz x.1 hn);have a2:=K ((B1.out.mono a1).trans (B2.mono W.out.le));have k:H (∀f,a.takes l=S f->f.Ok):=K (λf C=>QD y hz x (by rw [<-c.out];exact C));have a5:=K D;simp only [bh];clear i x B2 D B hz r;go_wp2_with fail
 rw [a5.out];refine HT.out.mono ?_;rintro e w7 ⟨d,o⟩;have j:=K (a2.out.trans o);clear o
 rcases d with ⟨s,rfl,t⟩ | ⟨f,q',s,rfl,t⟩
 .go_wp2_with fail
  go_ret;exact ⟨⟨Y4 ⟨c.out.trans s,rfl,t⟩,j.out⟩,k.out⟩
 go_wp2_with fail
 go_ret;exact ⟨⟨Y5 ⟨f,q',c.out.trans s,rfl,t⟩,j.out⟩,k.out⟩
open Go.ChangeMaps (setBlock)
section
variable {base pb mb:Nat} {q:Nat->Nat} {vr:QJ} {S:aa} {w w':QI}
theorem bt.ze(h:bt base w pb mb q vr S){i:Nat}(n:i∈S.live)(d:Int):bt base (w.setCell ⟨q i,4,N⟩ (I J d)) pb mb q vr S:=by
 have l:aA (q i) w (w.setCell ⟨q i,4,N⟩ (I J d)):=(aA.refl _ _).setCell _;obtain ⟨t,y,z,k,u⟩:=h.xu i n;refine ⟨bm l h.xx (λe=>?_),bm l h.map (λe=>?_),h.yyW,h.xZ,h.one,λj o=>?_⟩
 .unfold gf at k;rw [<-e,h.xx] at k;simp at k
 .have:=h.map;unfold iu at this;unfold gf at k;rw [e,k] at this;simp at this
 obtain ⟨a,v,x,b,c⟩:=h.xu j o
 have f:(w.setCell ⟨q i,4,N⟩ (I J d)).ownsRow base 218 2 v (S.xq j).length (cI (S.xq j)):=aB c λg p e _=>bm l e λm=>by
  unfold gf at k;rw [m,k] at e;simp at e
 by_cases e:j=i
 .subst e;have s:=Ro w (q j) 4 _ _ (I J d) b;exact ⟨a,v,(d,x.2),s,f⟩
 exact ⟨a,v,x,bm l b (λm=>e (h.one j o i n m)),f⟩
end
theorem KN{q:Nat->Nat}{l:List Nat}{seen:Array Nat}{e:MapEntry}(h:e∈(Go.leftOf (dY q l) seen).toList):∃i∈l,e=uE q i:=by
 unfold Go.leftOf at h;simp only [TJ,Ra,dh] at h;obtain ⟨i,a,rfl⟩:=Rl.1 h.1;exact ⟨i,a,rfl⟩
theorem GS{q:Nat->Nat}{l:List Nat}(h:l.Nodup):((dY q l).toList.map (·.born)).Nodup:=by
 rw [dh,Rg];have e:((λx:MapEntry=>x.born) ∘ uE q)=id:=by funext i;rfl
 rw [e,List.map_id];exact h
theorem KM{a:Array MapEntry}{seen:Array Nat}{e:MapEntry}(h:e∈(Go.leftOf a seen).toList):(Go.leftOf a (seen.push e.born)).size < (Go.leftOf a seen).size:=by
 unfold Go.leftOf at h ⊢;have b:∀p:MapEntry->Bool,(a.filter p).size=(a.toList.filter p).length:=λp=>by rw [<-TJ,Array.length_toList]
 rw [b,b];rw [TJ,Ra] at h;refine filter_lt _ _ (λx c=>?_) e h.2 ?_ a.toList h.1
 .simp only [Array.contains_push,Bool.not_eq_true',Bool.or_eq_false_iff] at c ⊢;exact c.1
 simp
theorem tG{W:QI}{r b c:Nat}{a:Option Nat}{s:Array Nat}(h:W.heap[r]? =some (.mapIter a b s c)):W.iterSeen r=s:=by
 unfold World.iterSeen;rw [h]
structure ur(w W:QI)(base pb mb:Nat)(q:Nat->Nat)(vr:QJ)(S:aa)(r:Nat)(seen:Array Nat):Prop where
 xx:bt base W pb mb q vr S
 it:W.heap[r]? =some (.mapIter (some mb) S.items.length seen S.items.length)
 touch:aE [183] w W
 below:Y6 base w W
theorem DM(W:QI)(r:Nat)(o:Obj):aA r W (setBlock W r o):=
 ⟨by simp [setBlock],λk a=>by simp [setBlock,Ne.symm a],⟨rfl,rfl,rfl⟩⟩
theorem OG{W:QI}{r:Nat}(h:r < W.heap.size)(o:Obj):(setBlock W r o).heap[r]? =some o:=by simp [setBlock,h]
theorem LJ{f:List Za}{a b c:QI}{r:Nat}(h:aE f a b)(g:a.heap.size<=r)(d:aA r b c):aE f a c:=
 ⟨by rw [d.1];exact h.1,λk o e n=>(d.2 k (by have:=aq e;omega)).trans (h.2 k o e n),h.3.trans d.3⟩
section
variable {w W:QI} {base pb mb:Nat} {q:Nat->Nat} {vr:QJ} {S:aa} {r:Nat} {seen:Array Nat}
theorem ur.step(h:ur w W base pb mb q vr S r seen)(m:w.heap.size<=r)(n:base<=w.heap.size)(d:Array Nat):ur w (setBlock W r (.mapIter (some mb) S.items.length d S.items.length)) base pb mb q vr S r d:=by
 have f:=DM W r (.mapIter (some mb) S.items.length d S.items.length);refine ⟨⟨bm f h.xx.xx (λe=>?_),bm f h.xx.map (λe=>?_),h.xx.yyW,h.xx.xZ,h.xx.one,λi l=>?_⟩,OG (aq h.it) _,LJ h.touch m f,h.below.trans (f.below (by omega))⟩
 .have:=h.xx.xx;rw [e,h.it] at this;simp at this
 .have:=h.xx.map;unfold iu at this;rw [e,h.it] at this;simp at this
 obtain ⟨a,v,x,b,c⟩:=h.xx.xu i l;refine ⟨a,v,x,bm f b (λe=>?_),aB c λg j e _=>bm f e λk=>?_⟩
 .unfold gf at b;rw [e,h.it] at b;simp at b
 rw [k,h.it] at e;simp at e
theorem ur.drew(h:ur w W base pb mb q vr S r seen):ur w W.drew base pb mb q vr S r seen:=
 ⟨h.xx.xo ((QQ _ _).drew),h.it,h.touch.trans (aE.below ((QQ _ _).drew)),h.below.drew⟩
theorem ur.put(h:ur w W base pb mb q vr S r seen){i:Nat}(g:i∈S.live)(d:Int):ur w (W.setCell ⟨q i,4,N⟩ (I J d)) base pb mb q vr S r seen:=by
 have f:aA (q i) W (W.setCell ⟨q i,4,N⟩ (I J d)):=(aA.refl _ _).setCell _;obtain ⟨a,v,x,b,c⟩:=h.xx.xu i g;refine ⟨h.xx.ze g d,bm f h.it (λe=>?_),h.touch.same b (by simp) f,h.below.trans (f.below a)⟩;unfold gf at b;rw [<-e,h.it] at b;simp at b
end
theorem oP(base pb mb:Nat)(q:Nat->Nat)(vr:QJ)(S:aa)(w:QI)(h:bt base w pb mb q vr S):Y8 Ys 55 #[YV (some ⟨pb,0,N⟩)] w λe w'=>e=YX (YY #[])/\bt base w' pb mb q vr S/\aE [183] w w'/\Y6 base w w':=by
 have s:=h.le;have B:=run_range_map (P:=Ys) w 99 3 181 mb (dY q S.live) S.items.length underlying99 h.map;have M:w.cell? ⟨pb,3,N⟩=some (.map (some mb)):=Q3 h.xx _
 have C:ur w (w.alloc (.mapIter (some mb) S.items.length #[] S.items.length)) base pb mb q vr S w.heap.size #[]:=
  have z:Y6 w.heap.size w (w.alloc (.mapIter (some mb) S.items.length #[] S.items.length)):=(QQ _ _).alloc (QR _) _
  ⟨h.xo z,Q0 w _,aE.below z,z.mono s⟩
 have k:=K C;clear h C;go_enter func55,ntmps55;go_wp2_with fail
 obtain ⟨Q,m⟩:=QE (w.alloc (.mapIter (some mb) S.items.length #[] S.items.length));rw [m] at k ⊢;clear m B M;go_loopw [] (λw'=>∃seen:Array Nat,H (ur w w' base pb mb q vr S w.heap.size seen)) (λw'=>(Go.leftOf (dY q S.live) (w'.iterSeen w.heap.size)).size)
 case atStart=>exact ⟨#[],k⟩
 case round=>
  obtain ⟨seen,c⟩:=hrel
  have O:=run_next_at (P:=Ys) wr 0 w.heap.size mb S.items.length S.items.length seen (dY q S.live) S.items.length c.out.it c.out.xx.map (λx E=>by
   rw [dh] at E;obtain ⟨i,p,rfl⟩:=Rl.1 E
   exact dR p) (QR _)
  rcases O with ⟨_,a⟩ | ⟨e,A,G,t,a⟩
  .go_wp2_with fail
   refine RN (RP rfl _ _ _) rfl ?_;exact ⟨rfl,c.out.xx,c.out.touch,c.out.below⟩
  obtain ⟨i,p,rfl⟩:=KN A;have j:=K (KM A)
  have D:ur w G base pb mb q vr S w.heap.size seen:=by
   rcases t with rfl | rfl
   .exact c.out
   exact c.out.drew
  have g:=D.step (QR _) s (seen.push (uE q i).born);obtain ⟨y,n⟩:=QE (setBlock G w.heap.size (.mapIter (some mb) S.items.length (seen.push (uE q i).born) S.items.length));rw [n] at a g;have o:=run_entry_at (P:=Ys) y w.heap.size mb S.items.length seen (dY q S.live) S.items.length (uE q i) g.it g.xx.map (by rw [dh];exact Rl.2 ⟨i,p,rfl⟩) (GS (wP S));have R:y.cell? ⟨pb,1,N⟩=some (I J S.time):=Q3 g.xx.xx _;obtain ⟨_,v,x,b,_⟩:=g.xx.xu i p;have U:y.cell? ⟨q i,4,N⟩=some (I J x.1):=Q3 b _;have V:=RJ b 4;have l:=K (g.put p S.time);have u:=K c.out.it;have f:(uE q i).val=YV (some ⟨q i,0,N⟩):=rfl;have d:(uE q i).key=I J ((i:Int)+1):=rfl;rw [f,d] at a o;clear f d n D g b t A c;go_wp2_with fail
  exact ⟨⟨_,l⟩,by rw [tG l.out.it,tG u.out];exact j.out⟩
open Go.Lib (bytesWorld bytesWorld_size bytesWorld_at_old bytesWorld_cell)
def lC(w:QI)(v:QJ)(l:QF):Prop:=∃g cap cur z,v=L (S ⟨g,0,N⟩) l.length cap/\w.heap[g]? =S (YU cur 5 z)/\(∀j,j < l.length->w.cell? ⟨g,j,N⟩=S (I .u8 (l.getD j 0).toNat))/\cap<=z.1/\l.length<=cap/\cap<=maxLen/\cur.size=cap/\cur.toList.take l.length=Lib.byteCells l
theorem lC.xT{w f:QI}{v:QJ}{l:QF}(h:lC w v l)(m:∀(g:Nat) (a:Array QJ) (z:Nat×Nat),w.heap[g]? =S (YU a 5 z)->f.heap[g]? =S (YU a 5 z)):lC f v l:=by
 obtain ⟨g,c,a,z,e,d,i,n⟩:=h;have b:=m g a z d;exact ⟨g,c,a,z,e,b,λj k=>(World.cell?_of_block (w:=w) (b.trans d.symm)).trans (i j k),n⟩
theorem lC.xo{w a:QI}{v:QJ}{l:QF}(h:lC w v l)(b:Y6 w.heap.size w a):lC a v l:=h.xT λ_ _ _ e=>ae b e
theorem bt.nil{w:QI}:bt w.heap.size ((w.alloc (.map #[] 0)).alloc (YU #[L N 0 0,I J 0,I J 0,.map (S w.heap.size)] 102)) (w.heap.size+1) w.heap.size (λ_=>0) (L N 0 0) ⟨[],0⟩:=by
 have b:((w.alloc (.map #[] 0)).alloc (YU #[L N 0 0,I J 0,I J 0,.map (S w.heap.size)] 102)).heap[w.heap.size+1]? =S (YU #[L N 0 0,I J 0,I J 0,.map (S w.heap.size)] 102 (0,0)):=by
  have:=Q0 (w.alloc (.map #[] 0)) (YU #[L N 0 0,I J 0,I J 0,.map (S w.heap.size)] 102);simpa using this
 refine ⟨b,?_,by omega,QR _,λi a=>?_,λi a=>?_⟩
 .exact ae ((QQ _ _).alloc (QR _) _) (Q0 w (.map #[] 0))
 .have:=dR a;simp at this
 have:=dR a;simp at this
theorem oq{W:QI}{e:Za}{x:QL}:Y6 W.heap.size W (bytesWorld W e x):=
 ⟨by simp [bytesWorld,World.freeze,World.alloc,World.drew, -World.alloc_eq, -World.drew_eq],by simp [bytesWorld,World.freeze,World.alloc,World.drew, -World.alloc_eq, -World.drew_eq],by simp [bytesWorld,World.freeze,World.alloc,World.drew, -World.alloc_eq, -World.drew_eq],by rw [bytesWorld_size];omega,λk a=>bytesWorld_at_old W e x k a⟩
theorem nQ(W:QI)(e:Za)(x:QL):(Lib.bytesCells W e x).size=grownCap W x.size 0 e:=by
 have:=Us W x.size 0 e;simp only [Lib.bytesCells,Array.size_append,Array.size_map,Array.size_replicate];have a:x.data.size=x.size:=rfl;omega
theorem uy(W:QI)(e:Za)(l:QF):(Lib.bytesCells W e (bs l)).toList.take l.length=Lib.byteCells l:=by
 have a:(bs l).data.toList=l:=ao l;simp only [Lib.bytesCells,Array.toList_append,Array.toList_map,a,Lib.byteCells];rw [SO (by simp),SQ (by simp)]
theorem FJ{s c i k:Nat}{q:Nat->Nat}{r:QJ}{a:aa}{w W:QI}{l:QF}(h:bt s W c i q r a)(n:Y6 s w W):let v:=L (S ⟨W.heap.size,0,N⟩) (bs (l.take k)).size (grownCap W (bs (l.take k)).size 0 5)
  let b:=(bytesWorld W 5 (bs (l.take k))).setCell ⟨c,0,N⟩ v
  (l.take k).length<=maxLen->bt s b c i q v a/\lC b v (l.take k)/\Y6 s w b:=by
 intro v b f;have g:=h.xo (oq (e:=5) (x:=bs (l.take k)));have d:aA c (bytesWorld W 5 (bs (l.take k))) b:=(aA.refl _ _).setCell _;have p:=h.yb;refine ⟨g.yv (T:=a.time) d (Ro _ c 0 _ _ v g.xx),⟨W.heap.size,_,_,_,by rw [<-aj],bm d (Lib.bytesWorld_at_new W 5 _) (by omega),λj o=>?_,?_,?_,?_,?_,?_⟩,?_⟩
 .have m:b.cell? ⟨W.heap.size,j,N⟩=(bytesWorld W 5 (bs (l.take k))).cell? ⟨W.heap.size,j,N⟩:=World.cell?_of_block (d.2 W.heap.size (by omega));rw [m,bytesWorld_cell _ _ _ _ (by rw [aj];exact o),ao]
 .show _<=(Lib.bytesCells W 5 (bs (l.take k))).size;rw [nQ];exact QR _
 .rw [<-aj];exact Us _ _ _ _
 .exact grownCap_le_maxLen _ _ _ _ (by rw [aj];exact f)
 .exact nQ _ _ _
 .exact uy _ _ _
 exact (n.trans (oq.mono h.le)).trans (d.below h.yyW)
theorem BH{l:QF}{c:QF×QF}(h:jw l=S c):c.2=l.drop (8+c.1.length):=by
 rw [pr] at h
 split at h
 .cases h
 rename_i b
 cases h
 have a:((l.drop 8).take (be (l.take 4))).length=be (l.take 4):=by rw [Sm,Rq];omega
 simp only;rw [a,SX]
theorem oo(l:QF)(n:Int)(w:QI)(hl:l.length<=1048576)(hm:w.cell? ⟨0,0,N⟩=S (I J n)):Y8 Ys 20 #[T (bs l)] w λe G=>∃pb mb q vr,e=YX (YV (S ⟨pb,0,N⟩))/\bt w.heap.size G pb mb q vr (bn l).1/\(bn l).1.Ok/\lC G vr (l.take (bn l).2)/\(∀g,vr.ownBlock=S g->w.heap.size<=g)/\Y6 w.heap.size w G:=by
 obtain ⟨W0,m⟩:=QE ((w.alloc (.map #[] 0)).alloc (YU #[L N 0 0,I J 0,I J 0,.map (S w.heap.size)] 102));have Q:H (bt w.heap.size W0 (w.heap.size+1) w.heap.size (λ_=>0) (L N 0 0) ⟨[],0⟩):=K (by rw [<-m];exact bt.nil);have P:H (Y6 w.heap.size w W0):=K (by rw [<-m];exact ((QQ _ _).alloc (QR _) _).alloc (by simp) _);have sl:=aj l;have a8:=K m;have HM:=K hm;have b4:=@run_makeMap Ys;have b3:∀(W:QI) (x:QL),(convert 9 100 (T x)).run Ys W= .ok (L (S ⟨W.heap.size,0,N⟩) x.size (grownCap W x.size 0 5)) (bytesWorld W 5 x):=λW x=>Lib.run_convert_string_bytes W _ _ _ x underlying9 underlying100 underlying5;clear m hm;go_enter func20,ntmps20;go_wp2_with fail
 rw [a8.out];go_loopw [4] (λv G=>∃(k f:Nat) (a:aa) (q:Nat->Nat),v=I J k/\k<=l.length/\8 * a.items.length<=k/\H (l.length+1<=k+f)/\H (a.time<=1000000000)/\H a.Ok/\H (bt w.heap.size G (w.heap.size+1) w.heap.size q (L N 0 0) a)/\H (Y6 w.heap.size w G)/\H (bn l=dj f a k (l.drop k))) (λv _=>l.length - (Y9 v).toNat)
 case atStart=>exact ⟨0,l.length+1,⟨[],0⟩,_,rfl,QS _,by simp,K (by omega),K (by simp),K (aa.Ok.nil 0),Q,P,K rfl⟩
 case round=>
  clear Q P;obtain ⟨k,f,a,q,rfl,hk,hS,HF,HT,HO,HS,HB,HR⟩:=hrel;obtain ⟨f,rfl⟩:∃g,f=g+1:=⟨f - 1,by have:=HF.out;omega⟩
  obtain ⟨R,Y⟩:=QE (l.drop k);have b2:R.length=l.length - k:=by rw [<-Y,Rq]
  rw [Y] at HR;have a2:=K Y;have a3:H ((bs l).extract k l.length=bs R):=K (by rw [bR,QZ,Y]);clear Y;go_wp2_with fail
  rw [a3.out];refine (IU R wr (by unfold maxLen;omega)).mono ?_;rintro e w1 ⟨rfl,a1⟩;have B:Y6 wr.heap.size wr w1:=a1.toBelow (QR _);have A1:=K (HS.out.xo B);have B1:=K (HB.out.trans (B.mono HS.out.le));clear a1 B
  have h:H (∀(W:QI) (q':Nat->Nat),bt w.heap.size W (w.heap.size+1) w.heap.size q' (L N 0 0) a->∀x:QL,(bytesWorld W 5 x).cell? ⟨w.heap.size+1,0,N⟩=S (L N 0 0)/\(bytesWorld W 5 x).frozen? ⟨w.heap.size+1,0,N⟩=F):=K (λW q' j x=>by
   have:=(j.xo (oq (e:=5) (x:=x))).xx
   exact ⟨Q3 this _,RJ this 0⟩)
  have U:H ((bs l).extract 0 k=bs (l.take k)):=K (by rw [bR,SY]);have sk:(bs (l.take k)).size=k:=by rw [aj,Sm];omega
  cases C:jw R with
  | none=>
   have b:=K (HR.out.trans (gU C));have g0:=λx=>(h.out w1 q A1.out x).1;have g1:=λx=>(h.out w1 q A1.out x).2;clear C;simp only [oe];go_wp2_with fail
   rw [U.out];obtain ⟨u,y,A⟩:=FJ (l:=l) (k:=k) A1.out B1.out (by rw [Sm];unfold maxLen;omega);have r:=B1.out;rw [sk] at u y A;refine (oP _ _ _ _ _ _ _ u).mono ?_;rintro e w9 ⟨rfl,M,X,O⟩;have p:=K M;have s:=K (y.xT λg a9 z e=>X.cells e (by decide));have t:=K (A.trans O);clear M X O u y A;go_wp2_with fail
   go_ret;exact ⟨w.heap.size+1,w.heap.size,q,_,rfl,by rw [b.out];exact p.out,by rw [b.out];exact HO.out,by rw [b.out];exact s.out,λg e=>(by injection e with e;simp only at e;rw [<-e];exact r.size),t.out⟩
  | some c=>
   have b0:=lI C;obtain ⟨d,c2⟩:=c;simp only at b0;have a0:w1.cell? ⟨0,0,N⟩=S (I J n):=(B1.out.cell (by exact au HM.out)).trans HM.out;have a7:=K (Es w.heap.size (w.heap.size+1) w.heap.size q (L N 0 0) a d n w1 A1.out HO.out (by omega) a0 (by omega));have a4:H (a.takes d=N->bn l=(a,k)):=K (λht=>HR.out.trans (jE C ht))
   have V:H (∀i,a.takes d=S i->bn l=dj f i (k+8+d.length) (l.drop (k+8+d.length))/\8 * i.items.length<=k+8+d.length/\i.time<=1000000000):=K (λi ht=>by
    have hz:=oY ht HT.out;refine ⟨?_,by omega,hz.2⟩
    rw [HR.out,fR C ht]
    rw [show l.drop (k+8+d.length)=c2 by
     have e9:=BH C;simp only at e9;rw [e9, <-a2.out,SX]
     congr 1;omega])
   have s1:=aj d;have s2:=aj c2;clear C a0;simp only [oe];go_wp2_with fail
   refine a7.out.mono ?_;intro e w2 D;obtain ⟨hT,o⟩:=D;unfold oi at hT;obtain ⟨b1,Z⟩:=hT;have B2:=K (B1.out.trans Z);have a6:=K o;clear Z o
   rcases b1 with ⟨E,rfl,j⟩ | ⟨i,q',E,rfl,j⟩
   .have b:=K (a4.out E);have g0:=λx=>(h.out w2 q j x).1;have g1:=λx=>(h.out w2 q j x).2;have A2:=K j;clear E j;go_wp2_with fail
    rw [U.out];obtain ⟨u,y,A⟩:=FJ (l:=l) (k:=k) A2.out B2.out (by rw [Sm];unfold maxLen;omega);have r:=B2.out;rw [sk] at u y A;refine (oP _ _ _ _ _ _ _ u).mono ?_;rintro e w9 ⟨rfl,M,X,O⟩;have p:=K M;have s:=K (y.xT λg a9 z e=>X.cells e (by decide));have t:=K (A.trans O);clear M X O u y A;go_wp2_with fail
    go_ret;exact ⟨w.heap.size+1,w.heap.size,q,_,rfl,by rw [b.out];exact p.out,by rw [b.out];exact HO.out,by rw [b.out];exact s.out,λg e=>(by injection e with e;simp only at e;rw [<-e];exact r.size),t.out⟩
   have b:=K (V.out i E);have a5:=K (a6.out i E);have A2:=K j;have b5:IntKind.i64.wrap ((l.length:Int) - (c2.length:Int))=((k+8+d.length:Nat):Int):=by rw [QY];omega
   clear E j;go_wp2_with fail
   exact ⟨⟨k+8+d.length,f,i,q',rfl,by omega,b.out.2.1,K (by have:=HF.out;omega),K b.out.2.2,a5,A2,B2,K b.out.1⟩,by simp only [Y9];omega⟩
def kd(base:Nat)(w:QI)(pp:Nat)(l:QF):Prop:=
 ∃pb mb q vr,(∃C:Array QJ,w.heap[pp]? =S (YU C 66 (0,0))/\C[9]? =S (YV (S ⟨pb,0,N⟩)))/\bt base w pb mb q vr (bn l).1/\(bn l).1.Ok/\lC w vr (l.take (bn l).2)/\base<=pp/\∀g,vr.ownBlock=S g->base<=g
theorem kd.xo{a c:Nat}{w d:QI}{l:QF}(h:kd a w c l)(b:Y6 w.heap.size w d):kd a d c l:=by
 obtain ⟨n,m,q,o,⟨C,e,k⟩,f,g,i,j⟩:=h;exact ⟨n,m,q,o,⟨C,ae b e,k⟩,f.xo b,g,i.xo b,j⟩
theorem Dy(w:QI):Y8 Ys 28 #[YV N] w λe a=>e=YX (YY #[T (bs []),I J 1])/\w=a:=by
 go_enter func28,ntmps28;go_wp2_with fail
 go_ret2
 exact ⟨rfl,rfl⟩
theorem AN(w:QI):Y8 Ys 30 #[YV N] w λe a=>e=YX (YY #[L N 0 0,I J 1])/\w=a:=by
 go_enter func30,ntmps30;go_wp2_with fail
 go_ret2
 exact ⟨rfl,rfl⟩
theorem bt.mono{base f j g:Nat}{q:Nat->Nat}{k:QJ}{d:aa}{w:QI}(h:bt base w j g q k d)(e:f<=base):bt f w j g q k d:=
 ⟨h.xx,h.map,Rn e h.yyW,Rn e h.xZ,h.one,λi l=>by
  obtain ⟨a,v,x,b,c⟩:=h.xu i l
  exact ⟨Rn e a,v,x,b,c.mono e⟩⟩
def LY(c:bF)(l:QF)(w:QI)(e:Zb)(w':QI):Prop:=
 ((dk c=F/\e=YX (YY #[YV N,I J 2]))\/∃pp,dk c=YT/\e=YX (YY #[YV (S ⟨pp,0,N⟩),I J 0])/\kd w.heap.size w' pp l)/\Y6 w.heap.size w w'
theorem Np(c:bF)(r s t u:QJ)(l:QF)(m:Int)(w:QI)(h:dD w c r s t u)(hz:lB c)(hl:l.length<=1048576)(U:w.cell? ⟨0,0,N⟩=S (I J m)):Y8 Ys 7 #[YZ #[T c.host,r,s,t,I J c.most,I J c.size,u,I J c.xm,I J c.room],T (bs l)] w (LY c l w):=by
 obtain ⟨Q,j⟩:=QE (w.alloc (YU #[T c.host,r,s,t,I J c.most,I J c.size,u,I J c.xm,I J c.room] 35));have x:=QG j;have R:=au U;have W:Q.cell? ⟨0,0,N⟩=S (I J m):=(x.cell (by exact R)).trans U;have G:=K (sH c r s t u m Q (h.below x) hz W);have y:=K x;have Z:=K W;have O:=K j;have P:H (Q.heap[w.heap.size]? =S (YU #[T c.host,r,s,t,I J c.most,I J c.size,u,I J c.xm,I J c.room] 35 (0,0))):=K (by rw [<-j];exact Q0 w _);have E:=K (h.below x);clear x W j h U;go_enter func7,ntmps7;go_wp2_with fail
 rw [O.out];refine G.out.mono ?_;intro e d hE;obtain ⟨he,b⟩:=hE;subst he;have D:=K (y.out.trans (b.mono y.out.size))
 cases a:dk c
 case false=>
  simp only [EN];have k:=K a;clear a b;go_wp2_with fail
  go_ret2
  exact ⟨Y4 ⟨k.out,rfl⟩,D.out⟩
 simp only [EN];have k:=K a;have m2:d.cell? ⟨0,0,N⟩=S (I J m):=(b.cell (by exact au Z.out)).trans Z.out;have B:=K m2;have i:=ae b P.out;have y0:d.cell? ⟨w.heap.size,0,N⟩=S (T c.host):=Q3 i _;have y1:d.cell? ⟨w.heap.size,1,N⟩=S r:=Q3 i _;have y2:d.cell? ⟨w.heap.size,2,N⟩=S s:=Q3 i _;have y3:d.cell? ⟨w.heap.size,3,N⟩=S t:=Q3 i _;have y4:d.cell? ⟨w.heap.size,4,N⟩=S (I J c.most):=Q3 i _;have y5:d.cell? ⟨w.heap.size,5,N⟩=S (I J c.size):=Q3 i _;have y6:d.cell? ⟨w.heap.size,6,N⟩=S u:=Q3 i _;have y7:d.cell? ⟨w.heap.size,7,N⟩=S (I J c.xm):=Q3 i _;have y8:d.cell? ⟨w.heap.size,8,N⟩=S (I J c.room):=Q3 i _;have A:=K (vY c r s t u d (E.out.below b) (gI a));have V:w.heap.size<=d.heap.size:=D.out.size;clear a b m2 i;go_wp2_with fail
 refine A.out.mono ?_;rintro e X ⟨uD,uN,uU,uW,rfl,f,n,_⟩;obtain ⟨aD,cD,eD⟩:=az f.1;obtain ⟨aN,cN,eN⟩:=az f.2.1;obtain ⟨aU,cU,eU⟩:=az f.2.2.1;obtain ⟨aW,cW,eW⟩:=az f.2.2.2;subst eD eN eU eW;have M:=K (oo l m X hl ((n.cell (by exact au B.out)).trans B.out));have Y:=K (D.out.trans (n.mono V));have p:w.heap.size<=X.heap.size:=Y.out.size;clear n f A y0 y1 y2 y3 y4 y5 y6 y7 y8;go_wp2_with fail
 refine M.out.mono ?_;rintro e v ⟨pb,mb,q,vr,rfl,hA,hO,hR,hG,C⟩;have HA:=K hA;have HO:=K hO;have HR:=K hR;have HG:=K hG;have z:=K C;clear hA hO hR C hG;go_wp2_with fail
 go_ret2
 have o:Y6 v.heap.size v (v.alloc (YU #[T c.host,L aD c.xf.length cD,L aN c.xe.length cN,L aU c.x9.length cU,I J c.most,I J c.size,L aW c.waits.length cW,I J c.xm,I J c.room,YV (S ⟨pb,0,N⟩),L N 0 0,YV N] 66)):=(QQ _ _).alloc (QR _) _;have a0:X.heap.size<=v.heap.size:=z.out.size;exact ⟨Y5 ⟨v.heap.size,k.out,rfl,pb,mb,q,vr,⟨_,Q0 v _,rfl⟩,(HA.out.xo o).mono p,HO.out,HR.out.xo o,by omega,λg e=>Rn p (HG.out g e)⟩,(Y.out.trans (z.out.mono p)).trans (o.mono (by omega))⟩
open Go.RowKit Go.Maps Go.Shelf
open Go.WideElems (Fit rd rg)
def lZ:QJ->Option (DataW Unit×List MemPlace):=λ_=>some (.lit (.bool true),[])
theorem Mq{P:Program}{k:TypeId}(b:P.underlying k=some (.int .i64))(q:Nat->Nat)(i:Nat)(c:i < 4294967296):rd P k lZ (uE q i)=some (.int .i64 ((i:Int)+1),.lit (.bool true)):=by
 unfold rd uE;rw [keyOf_int_mk b (a:=(i:Int)+1) (Wh (by omega))];rfl
theorem Mr{P:Program}{k:TypeId}(j:P.underlying k=some (.int .i64)){q:Nat->Nat}{l:List Nat}{c:Nat}(g:∀i∈l,i < c)(h:l.Nodup)(m:c<=1048576)(n:l.length<=c):Fit P k lZ (dY q l) c:=by
 refine ⟨by simp [dY];unfold maxLen;omega,(MapKept.stamped_iff _ _).2 ⟨λx d=>?_,?_,?_⟩,λx d=>?_⟩
 .rw [dh] at d;obtain ⟨i,f,rfl⟩:=Rl.1 d;exact g i f
 .rw [dh,Rg];have:((λx:MapEntry=>x.born) ∘ uE q)=id:=rfl;rw [this,List.map_id];exact h
 .rw [dh,List.pairwise_map];refine h.imp λ{a b} hne e=>hne ?_;exact Jx q e
 rw [dh] at d;obtain ⟨i,f,rfl⟩:=Rl.1 d;exact ⟨_,Mq j q i (by have:=g i f;omega)⟩
def oJ(l:List Nat):List Int:=l.map λ(i:Nat)=>(i:Int)+1
theorem Km{P:Program}{k:TypeId}(c:P.underlying k=some (.int .i64)){q:Nat->Nat}{l:List Nat}(d:∀i∈l,i < 4294967296):(intKeys (DataW.map (((dY q l).toList.map (rg P k lZ)).foldr DataW.insert []))).Perm (oJ l):=by
 have a:(dY q l).toList.map (rg P k lZ)=l.map λ(i:Nat)=>(Lit.int .i64 ((i:Int)+1),(.lit (.bool true):DataW Unit)):=by
  rw [dh,Rg];exact SZ λi b=>by show rg P k lZ (uE q i)=_;unfold rg;rw [Mq c q i (d i b)];rfl
 rw [a];show ((List.foldr DataW.insert [] _).map λp=>Go.intOf p.1).Perm _;refine ((WideShapes.sorted_perm _).map _).trans ?_;rw [Rg];exact List.Perm.refl _
theorem Fa{l:List Nat}(e:l.Pairwise (·< ·)){c:List Int}(h:c.Perm (oJ l)):c.mergeSort (λx y=>decide (x<=y))=oJ l:=by
 have d:c.mergeSort leI=(oJ l).mergeSort leI:=mergeSort_of_perm_i h;refine d.trans (List.mergeSort_of_pairwise ?_);unfold oJ;rw [List.pairwise_map];exact e.imp λ{a b} hab=>by simp only [leI,decide_eq_true_eq];omega
theorem AG(a:aa):a.live.Pairwise (·< ·):=(List.pairwise_lt_range).filter _
theorem Fi(a:aa):a.live.length<=a.items.length:=by
 unfold aa.live;have:=List.length_filter_le (λi=> !(a.xq i).isEmpty) (List.range a.items.length)
 rwa [VF] at this
theorem Ly(m:Nat):AnyZI.SortsIn Ys Tryz.sortedA_ren Fence.wide m:=
 ⟨λg d a f W e b c=>UT.2 (AnyM.slices_Sort_int Tryz.sortA g d a f W e b c),
 λp a W=>UT.2 (AnyM.slices_Sort_int_none Tryz.sortA p a W)⟩
theorem MI(a:Option Nat)(W:QI):Calls Ys 117 #[.map a] W λe b=>e= .returned (.func (.func 193) #[] #[.pointer (some ⟨W.heap.size,0,none⟩)])/\b=W.alloc (.cells #[.map a] 99):=
 (UT (n:=5)).1 (AnyZI.keys_in Tryz.keysA Fence.wide 5 trivial rfl a W)
theorem zW(w:QI)(d c:Nat)(q:Nat->Nat)(l:List Nat)(h:iu w d q l c)(x:∀i∈l,i < c)(z:l.Pairwise (·< ·))(C:c<=1048576)(A:l.length<=c):Calls Ys 116 #[.func (.func 193) #[] #[.pointer (some ⟨w.heap.size,0,none⟩)]] (w.alloc (.cells #[.map (some d)] 99)) λe r=>∃v,e= .returned v/\r.ownsRow (w.heap.size+1) 3 1 v l.length ((oJ l).map λ(i:Int)=> .int .i64 i)/\Below (w.heap.size+1) (w.alloc (.cells #[.map (some d)] 99)) r:=by
 have E:l.Nodup:=z.imp λ{a b} hab=>by omega
 have p:d < w.heap.size:=aq h
 have j:(w.alloc (.cells #[.map (some d)] 99)).ownsMap Ys 3 lZ d c (.map (((dY q l).toList.map (WideElems.rg Ys 3 lZ)).foldr DataW.insert [])):=
  ⟨dY q l,c,(Below.heap_alloc _ _ d p).trans h,Mr underlying3 x E C A,by simp [dY];exact A,rfl⟩
 have o:Maps.size (DataW.map (((dY q l).toList.map (WideElems.rg Ys 3 lZ)).foldr DataW.insert []))=l.length:=by
  show (List.foldr DataW.insert [] _).length=_;rw [length_sorted,RU,dh,RU]
 have m:=AnyZI.keys_gives (ρ:=Tryz.keysA_ren) {Tryz.keysA with} Fence.wide 2 trivial rfl (by omega) w.heap.size d c _ (w.alloc (.cells #[.map (some d)] 99)) (by simp) (by simp) j;have s:=AnyZI.sorted_in Tryz.sortedA Fence.wide 5 trivial trivial trivial trivial rfl (by omega) (Ly _) (enters_of func192 (by kernel_rfl) rfl) 193 #[.pointer (some ⟨w.heap.size,0,none⟩)] trivial (enters_of func193 (by kernel_rfl) rfl) _ _ (by rw [o];unfold maxLen;omega) (by rw [o];omega) _ m;change CallsIn _ _ Ys 116 _ _ _ at s;refine ((UT (n:=5)).1 s).mono ?_;rintro e r ⟨v,G,rfl,B,f,y,u⟩;have k:=B.trans (Km (q:=q) underlying3 (λi D=>by have:=x i D;omega));have g:G.length=l.length:=by rw [k.length_eq];simp [oJ]
 have t:(w.alloc (.cells #[.map (some d)] 99)).heap.size=w.heap.size+1:=by simp
 rw [t,g,Fa z k] at f;rw [t] at u;exact ⟨v,rfl,f,u⟩
theorem ra:jw []=N:=rfl
theorem Kc{l:QF}{c:QF×QF}(h:jw l=S c)(n:Nat):jw (l.take (8+c.1.length+n))=S (c.1,c.2.take n):=by
 have m:=lI h;have j:=BH h;rw [pr] at h ⊢
 split at h
 .cases h
 rename_i e
 simp only [not_or,Ta,Tb] at e;injection h with h;have b:c.1=(l.drop 8).take (be (l.take 4)):=by rw [<-h]
 have d:c.1.length=be (l.take 4):=by rw [b,Sm,Rq];omega
 have k:(l.take (8+c.1.length+n)).take 4=l.take 4:=by rw [Tc];congr 1;omega
 have f:((l.take (8+c.1.length+n)).drop 4).take 4=(l.drop 4).take 4:=by
  rw [Td,Tc];congr 1;omega
 have g:((l.take (8+c.1.length+n)).drop 8).take c.1.length=(l.drop 8).take c.1.length:=by
  rw [Td,Tc];congr 1;omega
 have i:((l.take (8+c.1.length+n)).drop 8).drop c.1.length=c.2.take n:=by
  rw [SX,j,Td];congr 1;omega
 rw [k,f, <-d,g,i];have a:(l.drop 8).take c.1.length=c.1:=by rw [d, <-b]
 rw [if_neg]
 .rw [a]
 simp only [not_or,Ta,Tb];refine ⟨by rw [Sm];omega,?_⟩
 rw [a,e.2, <-b]
theorem FH:∀(f:Nat) (a:aa) (k:Nat) (l:QF),k<=(dj f a k l).2
 | 0,a,k,l=>QR _
 | f+1,a,k,l=>by
  cases b:jw l with
  | none=>rw [gU b];exact QR _
  | some c=>
   cases d:a.takes c.1 with
   | none=>rw [jE b d];exact QR _
   | some S'=>rw [fR b d];have:=FH f S' (k+8+c.1.length) c.2;omega
theorem zC:∀(f:Nat) (a:aa) (k:Nat) (l:QF) (b:Nat),(l.take ((dj f a k l).2 - k)).length < b->dj b a k (l.take ((dj f a k l).2 - k))=dj f a k l
 | 0,a,k,l,b,h=>by
  obtain ⟨b,rfl⟩:∃g,b=g+1:=⟨b - 1,by omega⟩
  show dj (b+1) a k (l.take (k - k))=(a,k);rw [Te,Tf,gU ra]
 | f+1,a,k,l,b,h=>by
  obtain ⟨b,rfl⟩:∃g,b=g+1:=⟨b - 1,by omega⟩
  cases d:jw l with
  | none=>
   rw [gU d];show dj (b+1) a k (l.take (k - k))=(a,k);rw [Te,Tf,gU ra]
  | some c=>
   cases i:a.takes c.1 with
   | none=>
    rw [jE d i];show dj (b+1) a k (l.take (k - k))=(a,k);rw [Te,Tf,gU ra]
   | some S'=>
    rw [fR d i] at h ⊢;have e:=FH f S' (k+8+c.1.length) c.2;have o:=lI d;obtain ⟨R,n⟩:=QE (dj f S' (k+8+c.1.length) c.2);have j:=zC f S' (k+8+c.1.length) c.2 b;rw [n] at h e j ⊢;have m:R.2 - k=8+c.1.length+(R.2 - (k+8+c.1.length)):=by omega
    rw [m] at h ⊢;rw [fR (Kc d _) i];refine j ?_;rw [Sm] at h ⊢;omega
theorem zE(l:QF):bn (l.take (bn l).2)=bn l:=by
 have h:=zC (l.length+1) ⟨[],0⟩ 0 l ((l.take (bn l).2).length+1) (by
  show (l.take ((bn l).2 - 0)).length < _
  rw [Nat.sub_zero];omega)
 rw [Nat.sub_zero] at h;exact h
theorem IX(c:bF)(o p q r:QJ)(n:QF)(w:QI)(h:dD w c o p q r)(X:lB c)(y:dk c=F):Y8 Ys 27 #[YZ #[T c.host,o,p,q,I J c.most,I J c.size,r,I J c.xm,I J c.room],T (bs n)] w λe s=>e=YX (YY #[YV N,I J 2])/\Y6 w.heap.size w s:=by
 obtain ⟨d,B,A,z,f,i,a,C,g⟩:=c;have b:=λs W=>rU ⟨d,B,A,z,f,i,a,C,g⟩ o p q r s W X;rw [y] at b;obtain ⟨E,P,t⟩:=az h.1;obtain ⟨G,Q,u⟩:=az h.2.1;obtain ⟨M,R,v⟩:=az h.2.2.1;obtain ⟨O,U,x⟩:=az h.2.2.2;simp only at t u v x b ⊢;subst t u v x;have D:=K h;have j:=K b;clear h b y;go_enter func27,ntmps27;go_wp2_with fail
 have l:Y6 w.heap.size w (w.alloc (YU #[T d,L E B.length P,L G A.length Q,L M z.length R,I J f,I J i,L O a.length U,I J C,I J g] 35)):=(QQ _ _).alloc (QR _) _;refine (j.out _ (D.out.below l)).mono ?_;rintro e Y ⟨rfl,k⟩;have m:=K (l.trans (k.mono (by simp)));have V:EN F=2:=rfl;clear k l j;rw [V];go_wp2_with fail
 go_ret2
 exact ⟨rfl,m.out⟩
def gP:bF:=⟨⟨#[109,120,46,111,114,103]⟩,[⟨#[97,46,111,114,103]⟩],[],[(⟨#[117]⟩,⟨#[119]⟩)],2,100,[5],50,100000⟩
theorem Cf:dk gP=YT:=by decide
theorem IH:lB gP:=by
 refine ⟨by decide,by decide,?_,by decide,by decide,?_,by decide⟩
 .intro s a
  rcases Rf.1 a with rfl | a
  .decide
  cases a
 intro s a
 rcases Rf.1 a with rfl | a
 .exact ⟨by decide,by decide⟩
 cases a
theorem oC(w:QI)(a b c d:Obj):((((w.alloc a).alloc b).alloc c).alloc d).heap[w.heap.size+1]? =S b/\((((w.alloc a).alloc b).alloc c).alloc d).heap[w.heap.size+1+1]? =S c/\((((w.alloc a).alloc b).alloc c).alloc d).heap[w.heap.size+1+1+1]? =S d:=by
 refine ⟨?_,?_,?_⟩
 .show ((((w.heap.push a).push b).push c).push d)[w.heap.size+1]? =S b;rw [VV,if_neg (by simp),VV,if_neg (by simp),VV,if_pos (by simp)]
 .show ((((w.heap.push a).push b).push c).push d)[w.heap.size+1+1]? =S c;rw [VV,if_neg (by simp),VV,if_pos (by simp)]
 show ((((w.heap.push a).push b).push c).push d)[w.heap.size+1+1+1]? =S d;rw [VV,if_pos (by simp)]
theorem zT{w:QI}{b n sz:Nat}{l:List QJ}{t:Za}(h:w.heap[b]? =S (YU l.toArray t (0,0)))(a:l.length=n * sz):bg w (L (S ⟨b,0,N⟩) n n) n sz l:=
 ⟨a,Y5 ⟨b,0,n,rfl,QR _,λj _=>by rw [Q3 h,TD,List.getElem?_toArray]⟩⟩
theorem Lh(w:QI):Y8 Ys 8 #[] w λe f=>∃a b c d,e=YX (gP.val a b c d)/\dD f gP a b c d/\Y6 w.heap.size w f:=by
 go_enter func8,ntmps8;go_wp2_with fail
 refine Ru (v:=gP.val (L (S ⟨w.heap.size+1,0,N⟩) 1 1) (L N 0 0) (L (S ⟨w.heap.size+1+1,0,N⟩) 1 1) (L (S ⟨w.heap.size+1+1+1,0,N⟩) 1 1)) (by simp [results,results8,go_sem,bF.val,gP]) rfl ⟨_,_,_,_,rfl,⟨?_,?_,?_,?_⟩,?_⟩
 .exact zT (n:=1) (sz:=1) (oC w _ _ _ _).1 rfl
 .exact ⟨rfl,Y4 ⟨rfl,_,_,rfl⟩⟩
 .exact zT (n:=1) (sz:=2) (oC w _ _ _ _).2.1 rfl
 .exact zT (n:=1) (sz:=1) (oC w _ _ _ _).2.2 rfl
 exact ((((QQ _ _).alloc (QR _) _).alloc (by simp) _).alloc (by simp;omega) _).alloc (by simp;omega) _
def oT(c:Int)(n:Nat):Nat:=(if c < 0 then -(c+1) else c).toNat % n
theorem rK(c:Int){n:Nat}(h:0 < n):oT c n < n:=Nat.mod_lt _ h
theorem oU(c:Int)(n:Nat)(w:QI)(f: -9223372036854775808<=c/\c<=9223372036854775807)(l:0 < n)(h:n<=4294967296):Y8 Ys 12 #[I J c,I J n] w λe i=>e=YX (I J (oT c n))/\w=i:=by
 obtain ⟨j,k⟩:=f
 by_cases a:c < 0
 .have g:decide (c < 0)=YT:=decide_eq_true a
  have b:H ((oT c n:Int)=(-(c+1)).tmod (n:Int)):=K (by
   unfold oT
   rw [if_pos a,Vp,Int.toNat_of_nonneg (by omega),Uf (by omega)])
  have d:¬(n:Int)=0:=by omega
  go_enter func12,ntmps12;go_wp2_with fail
  go_ret;exact ⟨congrArg (λx:Int=>YX (I J x)) (by rw [b.out,Int.neg_tmod]),rfl⟩
 have g:decide (c < 0)=F:=decide_eq_false a
 have b:H ((oT c n:Int)=c.tmod (n:Int)):=K (by
  unfold oT
  rw [if_neg a,Vp,Int.toNat_of_nonneg (by omega),Uf (by omega)])
 have d:¬(n:Int)=0:=by omega
 go_enter func12,ntmps12;go_wp2_with fail
 go_ret;exact ⟨congrArg (λx:Int=>YX (I J x)) (by rw [b.out,Uf (by omega)]),rfl⟩
theorem EI{l:QF}{c:QF×QF}(h:jw l=S c)(x:QF):jw (l++x)=S (c.1,c.2++x):=by
 have g:=lI h;rw [pr] at h ⊢
 split at h
 .cases h
 rename_i a
 simp only [not_or,Ta,Tb] at a;injection h with h;have f:(l++x).take 4=l.take 4:=SO (by omega)
 have b:((l++x).drop 4).take 4=(l.drop 4).take 4:=by
  rw [SP (by omega),SO (by rw [Rq];omega)]
 have e:(l++x).drop 8=l.drop 8++x:=SP (by omega);have t:(l.drop 8++x).take (be (l.take 4))=(l.drop 8).take (be (l.take 4)):=SO (by rw [Rq];omega);have d:(l.drop 8++x).drop (be (l.take 4))=(l.drop 8).drop (be (l.take 4))++x:=SP (by rw [Rq];omega);rw [f,b,e,t,d,if_neg, <-h];simp only [not_or,Ta,Tb];exact ⟨by rw [RI];omega,a.2⟩
theorem Kb(l:QF):po l<=4294967295:=by unfold po;omega
theorem Hf(c x:QF)(f:c.length < 4294967296):jw (bJ c++x)=S (c,x):=by
 have b:(256:Nat) ^ 4=4294967296:=by decide
 have e:bJ c++x=aG 4 c.length++(aG 4 (po c)++(c++x)):=by
  unfold bJ;simp
 have i:=aY 4 c.length;have j:=aY 4 (po c)
 have k:(bJ c++x).take 4=aG 4 c.length:=by
  rw [e,SO (by omega),SQ (by omega)]
 have a:(bJ c++x).drop 4=aG 4 (po c)++(c++x):=by
  rw [e];exact List.drop_left' i
 have d:(bJ c++x).drop 8=c++x:=by
  have:(bJ c++x).drop 8=((bJ c++x).drop 4).drop 4:=by rw [SX]
  rw [this,a];exact List.drop_left' j
 have g:be ((bJ c++x).take 4)=c.length:=by rw [k,nf,b,SV f]
 have h:be (((bJ c++x).drop 4).take 4)=po c:=by
  rw [a,SO (by omega),SQ (by omega),nf,b,SV (by have:=Kb c;omega)]
 rw [pr,g,h,d,List.take_left,List.drop_left,if_neg];simp only [not_or,Ta,Tb,and_true];rw [e];simp only [RI];omega
theorem Cj(f:Nat)(a:aa)(k:Nat):dj f a k []=(a,k):=by
 cases f with
 | zero=>rfl
 | succ f=>exact gU ra
theorem Ch:∀(f:Nat) (a:aa) (k:Nat) (l x:QF) (b:Nat),(dj f a k l).2=k+l.length->l.length < f->(l++x).length < b->∃g,x.length < g/\dj b a k (l++x)=dj g (dj f a k l).1 (k+l.length) x
 | 0,a,k,l,x,b,_,h,_=>by omega
 | f+1,a,k,l,x,b,h1,h2,h3=>by
  have d:l=[]->∃g,x.length < g/\dj b a k (l++x)=dj g (dj (f+1) a k l).1 (k+l.length) x:=λe=>by
   subst e;rw [Cj];exact ⟨b,h3,rfl⟩
  cases i:jw l with
  | none=>
   rw [gU i] at h1;exact d (List.length_eq_zero_iff.1 (by simp only at h1;omega))
  | some c=>
   have m:=lI i
   cases j:a.takes c.1 with
   | none=>
    rw [jE i j] at h1;simp only at h1;omega
   | some S'=>
    rw [fR i j] at h1 ⊢;obtain ⟨b,rfl⟩:∃g,b=g+1:=⟨b - 1,by omega⟩
    rw [fR (EI i x) j];rw [RI] at h3;obtain ⟨g,g1,g2⟩:=Ch f S' (k+8+c.1.length) c.2 x b (by omega) (by omega) (by rw [RI];omega);refine ⟨g,g1,?_⟩;show dj b S' (k+8+c.1.length) (c.2++x)=_;rw [g2,show k+8+c.1.length+c.2.length=k+l.length by omega]
theorem IP{a c:QF}{d:aa}(k:(bn a).2=a.length)(j:(bn a).1.takes c=S d)(i:c.length < 4294967296):bn (a++bJ c)=(d,a.length+(8+c.length)):=by
 obtain ⟨g,g1,g2⟩:=Ch (a.length+1) ⟨[],0⟩ 0 a (bJ c) ((a++bJ c).length+1) (by rw [TD];exact k) (by omega) (by omega);obtain ⟨g,rfl⟩:∃h,g=h+1:=⟨g - 1,by omega⟩
 have b:=Hf c [] i;rw [List.append_nil] at b;have f:(dj (a.length+1) ⟨[],0⟩ 0 a).1.takes c=S d:=j;have e:bn (a++bJ c)=dj ((a++bJ c).length+1) ⟨[],0⟩ 0 (a++bJ c):=rfl;rw [e,g2,fR b f,Cj];show (d,0+a.length+8+c.length)=_;rw [show 0+a.length+8+c.length=a.length+(8+c.length) by omega]
theorem NY{a d:aa}{l:QF}(h:a.takes l=S d):a.items.length<=d.items.length:=by
 have f:∀(a:aa) (m:aX) (c:List Nat) (b:Nat),a.items.length<=(a.failed m c b).items.length:=λa m c b=>by
  unfold aa.failed
  split
  .exact QR _
  simp
 have e:∀(a:aa) (k:Nat) (c:List Nat),(a.outs k c).items.length=a.items.length:=λa k c=>by unfold aa.outs;simp
 rw [qE] at h
 split at h
 .unfold aa.xC at h
  split at h
  .injection h with h;rw [<-h];simp
  cases h
 split at h
 .unfold aa.xE at h
  split at h
  .injection h with h;rw [<-h,e];exact QR _
  cases h
 split at h
 .unfold aa.xB at h
  split at h
  .injection h with h;rw [<-h];refine Rn ?_ (f _ _ _ _);rw [e];exact QR _
  cases h
 cases h
theorem me:∀(f:Nat) (a:aa) (k:Nat) (l:QF),a.items.length<=(dj f a k l).1.items.length
 | 0,a,k,l=>QR _
 | f+1,a,k,l=>by
  cases b:jw l with
  | none=>rw [gU b];exact QR _
  | some c=>
   cases d:a.takes c.1 with
   | none=>rw [jE b d];exact QR _
   | some S'=>rw [fR b d];exact Rn (NY d) (me f S' _ _)
theorem zB:∀(f:Nat) (a:aa) (k:Nat) (l x:QF) (b:Nat),(l++x).length < b->(dj f a k l).1.items.length<=(dj b a k (l++x)).1.items.length
 | 0,a,k,l,x,b,_=>me b a k _
 | f+1,a,k,l,x,b,h=>by
  cases d:jw l with
  | none=>rw [gU d];exact me b a k _
  | some c=>
   cases e:a.takes c.1 with
   | none=>rw [jE d e];exact me b a k _
   | some S'=>
    have i:=lI d;obtain ⟨b,rfl⟩:∃g,b=g+1:=⟨b - 1,by omega⟩
    rw [fR d e,fR (EI d x) e];refine zB f S' _ c.2 x b ?_;rw [RI] at h ⊢;omega
theorem IM(l x:QF):(bn l).1.items.length<=(bn (l++x)).1.items.length:=zB _ _ _ _ _ _ (by omega)
structure KS(S:aa)(T:Nat)(all:QF):Prop where
 items:S.items=(bn all).1.items
 time:S.time=T
 le:(bn all).1.time<=T
 whole:(bn all).2=all.length
theorem KS.xu{a:aa}{b:Nat}{c:QF}(h:KS a b c){m:aX}(k:bP (bT m)=S m)(g:m.id=a.items.length+1)(e:m.time=b)(j:(bT m).length < 4294967296):KS (a.plus m) b (c++bJ (bT m)):=by
 have i:(bn c).1.takes (bT m)=S ((bn c).1.plus m):=by
  rw [qE,k];show aa.xC _ m=_;unfold aa.xC;rw [decide_eq_true (by rw [g,h.items]),decide_eq_true (by rw [e];exact h.le)];rfl
 have d:=IP h.whole i j;have f:(bJ (bT m)).length=8+(bT m).length:=by unfold bJ;simp only [RI,aY];omega
 refine ⟨?_,e,?_,?_⟩
 .rw [d];show a.items++_=(bn c).1.items++_;rw [h.items]
 .rw [d];exact Nat.le_of_eq e
 rw [d,RI,f]
open Go.ChangeShapes Go.WideShapes Go.RowKit Go.Deep
section
variable {H:Type} {enc:TypeId×QJ->H} {w:QI} {base:Nat} {spare:Nat->Bool} {held:Bool}
theorem Nz:reachBytes=140737488351232:=by decide
theorem J7:prog.bytesOf 9=16:=by kernel_rfl
theorem J6:prog.bytesOf 96=16:=by kernel_rfl
theorem GW:prog.bytesOf 68=32:=by kernel_rfl
theorem J5:prog.bytesOf 3=8:=by kernel_rfl
theorem mJ:prog.cellsOf 9=1:=by kernel_rfl
theorem mI:prog.cellsOf 3=1:=by kernel_rfl
theorem J9:prog.cellsOf 96=2:=by kernel_rfl
theorem G6:prog.cellsOf 68=2:=by kernel_rfl
theorem G5:prog.cellsOf 30=1:=by kernel_rfl
theorem G4:prog.cellsOf 31=1:=by kernel_rfl
theorem Ey:prog.cellsOf 32=1:=by kernel_rfl
theorem G2:prog.cellsOf 33=1:=by kernel_rfl
theorem Bw:prog.cellsOf 35=9:=by kernel_rfl
theorem lq{P:Program}{t e:TypeId}{a c:List (DataW H)}(f:P.underlying t=some (.slice e))(b:((DataW.slice a c).weights P t).all (·<=reachBytes)=true):a.length * P.bytesOf e<=140737488351232:=by
 simp only [DataW.weights,f,VE,Rk,decide_eq_true_eq] at b;have d:=b.1;rw [Nz] at d;have g:a.length * P.bytesOf e<=(a.length+c.length) * P.bytesOf e:=Nat.mul_le_mul_right _ (by omega);omega
theorem zU{a:Addr}{c d h:Nat}{i:List QJ}(k:0 < h)(q:i.length=c * h)(f:c<=d)(n:∀j:Nat,j < c * h->w.cell? (a.add j)=i[j]?):bg w (.slice (some a) c d) c h i:=by
 refine ⟨q,?_⟩
 rcases Nat.eq_zero_or_pos c with rfl | r
 .exact .inl ⟨rfl,_,_,rfl⟩
 obtain ⟨b,l,g⟩:=a;have o:0 < c * h:=Nat.mul_pos r k;have m:=n 0 o;rw [List.getElem?_eq_getElem (by omega)] at m;have e:g=none:=by simpa [Addr.add] using World.cell?_spot m
 subst e;exact .inr ⟨b,l,d,rfl,f,λj p=>by rw [<-add_plain];exact n j p⟩
theorem NF{f:Nat}{p:List QJ}{x:DataW H×List MemPlace}(h:DataW.trod enc Ys w base spare held f 30 p=some x)(G:(x.1.weights Ys 30).all (·<=reachBytes)=true):∃(v:QJ) (l:List QL),p=[v]/\bg w v l.length 1 (bA l)/\(∀s∈l,s.size<=maxLen)/\16 * l.length<=140737488351232:=by
 rcases open_slice1 underlying30 mJ h with ⟨rfl,rfl⟩ | ⟨a,c,u,m,n,V,D,M,rfl,_,A,O,k,rfl,E⟩
 .exact ⟨_,[],rfl,⟨rfl,.inl ⟨rfl,_,_,rfl⟩⟩,(λ_ h=>by cases h),by decide⟩
 have B:c<=m:=by rw [k];split <;> omega
 have C:=lq underlying30 G;simp only [RU,VF,J7] at C
 have d:∀i,i < c->∃s:QL,w.cell? (a.add i)=some (.string s)/\s.size<=maxLen:=λi r=>by
  obtain ⟨y,z⟩:=E i (by omega);obtain ⟨s,e,_,o⟩:=VG underlying9 z;simp only [VH,and_true] at e;exact ⟨s,by rw [y,e],o⟩
 obtain ⟨b,q⟩:=choose_lt d;have t:((List.range c).map b).length=c:=by simp
 refine ⟨_,(List.range c).map b,rfl,?_,?_,by rw [t];omega⟩
 .rw [t];refine zU (by decide) (by simp [bA]) A λj g=>?_;rw [Vf] at g;rw [(q j g).1];simp [bA,g]
 intro s o;obtain ⟨i,r,rfl⟩:=Rl.1 o;exact (q i (Q8.1 r)).2
theorem NC{f:Nat}{o:List QJ}{x:DataW H×List MemPlace}(h:DataW.trod enc Ys w base spare held f 33 o=some x)(C:(x.1.weights Ys 33).all (·<=reachBytes)=true):∃(v:QJ) (l:List Int),o=[v]/\bg w v l.length 1 (dG l)/\8 * l.length<=140737488351232:=by
 rcases open_slice1 underlying33 mI h with ⟨rfl,rfl⟩ | ⟨a,c,q,m,n,V,D,E,rfl,_,y,M,k,rfl,B⟩
 .exact ⟨_,[],rfl,⟨rfl,.inl ⟨rfl,_,_,rfl⟩⟩,by decide⟩
 have z:c<=m:=by rw [k];split <;> omega
 have A:=lq underlying33 C;simp only [RU,VF,J5] at A
 have d:∀i,i < c->∃s:Int,w.cell? (a.add i)=some (.int .i64 s):=λi G=>by
  obtain ⟨r,t⟩:=B i (by omega);obtain ⟨s,e,_⟩:=VI underlying3 t;simp only [VH,and_true] at e;exact ⟨s,by rw [r,e]⟩
 obtain ⟨b,u⟩:=choose_lt d;have p:((List.range c).map b).length=c:=by simp
 refine ⟨_,(List.range c).map b,rfl,?_,by rw [p];omega⟩
 rw [p];refine zU (by decide) (by simp [dG]) y λj g=>?_;rw [Vf] at g;rw [u j g];simp [dG,g]
theorem Du(l:List (Int×Int)):(cZ l).length=l.length * 2:=by
 induction l with
 | nil=>rfl
 | cons a l ih=>show (_::_::cZ l).length=_;simp only [RQ,ih];omega
theorem N6{n j:Nat}(h:j < n * 2):∃k,k < n/\(j=k * 2\/j=k * 2+1):=⟨j / 2,by omega,by omega⟩
theorem ND{p q:Field}{f:Nat}{t:List QJ}{x:DataW H×List MemPlace}(Q:prog.underlying 96=some (.struct #[p,q]))(W:p.offset=0)(X:q.offset=1)(B:p.type=3)(C:q.type=3)
  (h:DataW.trod enc Ys w base spare held f 31 t=some x) (V:(x.1.weights Ys 31).all (·<=reachBytes)=true):
  ∃(v:QJ) (l:List (Int×Int)),t=[v]/\bg w v l.length 2 (cZ l)/\16 * l.length<=140737488351232:=by
 rcases open_slice_pairs underlying31 Q J9 W X (by rw [B];exact mI) (by rw [C];exact mI) h with ⟨rfl,rfl⟩ | ⟨a,c,D,m,n,V0,V1,Z,D1,P0,P1,rfl,_,O,hm,r,rfl,U⟩
 .exact ⟨_,[],rfl,⟨rfl,.inl ⟨rfl,_,_,rfl⟩⟩,by decide⟩
 have P:c<=m:=by rw [r];split <;> omega
 have R:=lq underlying31 V;simp only [RU,VF,J6] at R
 have d:∀i,i < c->∃s:Int×Int,w.cell? (a.add (i * 2))=some (.int .i64 s.1)/\w.cell? (a.add (i * 2+1))=some (.int .i64 s.2):=λi hi=>by
  obtain ⟨E,G,y,z⟩:=U i (by omega);rw [B] at y;rw [C] at z;obtain ⟨s,e,_⟩:=VI underlying3 y;obtain ⟨Y,u,_⟩:=VI underlying3 z;simp only [VH,and_true] at e u;exact ⟨(s,Y),by rw [E,e],by rw [G,u]⟩
 obtain ⟨b,A⟩:=choose_lt d;have g:((List.range c).map b).length=c:=by simp
 refine ⟨_,(List.range c).map b,rfl,?_,by rw [g];omega⟩
 rw [g];refine zU (by decide) (by rw [Du,g]) O λj M=>?_;obtain ⟨k,o,rfl | rfl⟩:=N6 M
 .rw [(A k o).1,qy _ k (by rw [g];exact o)];simp
 rw [(A k o).2,nF _ k (by rw [g];exact o)];simp
theorem Lv{p q:Field}{f:Nat}{y:List QJ}{x:DataW H×List MemPlace}(u:prog.underlying 68=some (.struct #[p,q]))(Y:p.offset=0)(Z:q.offset=1)(E:p.type=9)(G:q.type=9)
  (h:DataW.trod enc Ys w base spare held f 32 y=some x) (X:(x.1.weights Ys 32).all (·<=reachBytes)=true):
  ∃(v:QJ) (l:List (QL×QL)),y=[v]/\bg w v l.length 2 (bI l)/\(∀s∈l,s.1.size<=maxLen/\s.2.size<=maxLen)/\32 * l.length<=140737488351232:=by
 rcases open_slice_pairs underlying32 u G6 Y Z (by rw [E];exact mJ) (by rw [G];exact mJ) h with ⟨rfl,rfl⟩ | ⟨a,c,M,m,n,V0,V1,D0,D1,P0,P1,rfl,_,R,hm,t,rfl,W⟩
 .exact ⟨_,[],rfl,⟨rfl,.inl ⟨rfl,_,_,rfl⟩⟩,(λ_ h=>by cases h),by decide⟩
 have U:c<=m:=by rw [t];split <;> omega
 have V:=lq underlying32 X;simp only [RU,VF,GW] at V
 have d:∀i,i < c->∃s:QL×QL,w.cell? (a.add (i * 2))=some (.string s.1)/\w.cell? (a.add (i * 2+1))=some (.string s.2)/\s.1.size<=maxLen/\s.2.size<=maxLen:=λi D=>by
  obtain ⟨O,P,B,C⟩:=W i (by omega);rw [E] at B;rw [G] at C;obtain ⟨s,e,_,z⟩:=VG underlying9 B;obtain ⟨s',A,_,z'⟩:=VG underlying9 C;simp only [VH,and_true] at e A;exact ⟨(s,s'),by rw [O,e],by rw [P,A],z,z'⟩
 obtain ⟨b,r⟩:=choose_lt d;have g:((List.range c).map b).length=c:=by simp
 refine ⟨_,(List.range c).map b,rfl,?_,?_,by rw [g];omega⟩
 .rw [g];refine zU (by decide) (by rw [qa,g]) R λj Q=>?_;obtain ⟨k,o,rfl | rfl⟩:=N6 Q
  .rw [(r k o).1,jt _ k (by rw [g];exact o)];simp
  rw [(r k o).2.1,j7 _ k (by rw [g];exact o)];simp
 intro s u;obtain ⟨i,D,rfl⟩:=Rl.1 u;exact (r i (Q8.1 D)).2.2
theorem Px{α:Type}{l:List α}(h:l.length=9):∃a b c d e f g i j,l=[a,b,c,d,e,f,g,i,j]:=by
 match l,h with
 | [a,b,c,d,e,f,g,i,j],_=>exact ⟨a,b,c,d,e,f,g,i,j,rfl⟩
theorem jB{P:Program}{b:List TypeId}{a:List (DataW H)}(h:(DataW.weightsEach P b a).all (·<=reachBytes)=true){j:Nat}{t:TypeId}{d:DataW H}(f:b[j]? =some t)(c:a[j]? =some d):(d.weights P t).all (·<=reachBytes)=true:=
 Rb.2 λn e=>Rb.1 h n (DataW.weights_mem_each f c n e)
theorem Nq{o:Nat}{q:List QJ}{x:DataW H×List MemPlace}(h:DataW.trod enc Ys w base spare held o 35 q=some x)(p:(x.1.weights Ys 35).all (·<=reachBytes)=true):∃(c:bF) (W X Y Z:QJ),q=[.string c.host,W,X,Y,.int .i64 c.most,.int .i64 c.size,Z,.int .i64 c.xm,.int .i64 c.room]/\dD w c W X Y Z/\lB c/\qK c:=by
 obtain ⟨xs,n,_,rfl,P,hx,m⟩:=DataW.trod_struct underlying35 h;rw [Bw] at P;obtain ⟨a,b,d,e,f,g,i,k,l,rfl⟩:=Px P;obtain ⟨y0,y1,y2,y3,y4,y5,y6,y7,y8,rfl⟩:=Px hx;have C:DataW.trod enc Ys w base spare held n 9 (([a,b,d,e,f,g,i,k,l].drop 0).take (prog.cellsOf 9))=some y0:=m 0 _ rfl;have g1:DataW.trod enc Ys w base spare held n 30 (([a,b,d,e,f,g,i,k,l].drop 1).take (prog.cellsOf 30))=some y1:=m 1 _ rfl;have g2:DataW.trod enc Ys w base spare held n 31 (([a,b,d,e,f,g,i,k,l].drop 2).take (prog.cellsOf 31))=some y2:=m 2 _ rfl;have g3:DataW.trod enc Ys w base spare held n 32 (([a,b,d,e,f,g,i,k,l].drop 3).take (prog.cellsOf 32))=some y3:=m 3 _ rfl;have D:DataW.trod enc Ys w base spare held n 3 (([a,b,d,e,f,g,i,k,l].drop 4).take (prog.cellsOf 3))=some y4:=m 4 _ rfl;have E:DataW.trod enc Ys w base spare held n 3 (([a,b,d,e,f,g,i,k,l].drop 5).take (prog.cellsOf 3))=some y5:=m 5 _ rfl;have G:DataW.trod enc Ys w base spare held n 33 (([a,b,d,e,f,g,i,k,l].drop 6).take (prog.cellsOf 33))=some y6:=m 6 _ rfl;have M:DataW.trod enc Ys w base spare held n 3 (([a,b,d,e,f,g,i,k,l].drop 7).take (prog.cellsOf 3))=some y7:=m 7 _ rfl;have O:DataW.trod enc Ys w base spare held n 3 (([a,b,d,e,f,g,i,k,l].drop 8).take (prog.cellsOf 3))=some y8:=m 8 _ rfl;simp only [mJ,mI,G5,G4,Ey,G2,SY,List.drop_succ_cons,List.take_succ_cons,Tf] at C g1 g2 g3 D E G M O;simp only [DataW.weights,underlying35,List.map_cons,List.map_nil] at p;obtain ⟨s0,r,_,z0⟩:=VG underlying9 C;obtain ⟨v1,Q,s,r1,z1,m1⟩:=NF g1 (jB p (j:=1) rfl rfl);obtain ⟨v2,R,t,r2,m2⟩:=ND underlying96 rfl rfl rfl rfl g2 (jB p (j:=2) rfl rfl);obtain ⟨v3,U,u,r3,z3,m3⟩:=Lv underlying68 rfl rfl rfl rfl g3 (jB p (j:=3) rfl rfl);obtain ⟨n4,v,_⟩:=VI underlying3 D;obtain ⟨n5,y,_⟩:=VI underlying3 E;obtain ⟨v6,V,z,r6,m6⟩:=NC G (jB p (j:=6) rfl rfl);obtain ⟨n7,A,_⟩:=VI underlying3 M;obtain ⟨n8,B,_⟩:=VI underlying3 O;simp only [VH,and_true] at r s t u v y z A B;subst r s t u v y z A B;exact ⟨⟨s0,Q,R,U,n4,n5,V,n7,n8⟩,_,_,_,_,rfl,⟨r1,r2,r3,r6⟩,⟨z0,by show Q.length<=_;omega,z1,by show R.length<=_;omega,by show U.length<=_;omega,z3,by show V.length<=_;omega⟩,⟨m1,m2,m3,m6⟩⟩
end
end Go.Proofs.YtponhohdpophlaaGreatDoor
