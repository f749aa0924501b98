import Derived.Test.YtponhohdpophlaaGreatDoorS21
import Derived.Test.YtponhohdpophlaaGreatDoorS19
namespace Go.Proofs.YtponhohdpophlaaGreatDoor
set_option maxHeartbeats 8000000
set_option maxRecDepth 1000000
open Go.Lib renaming cell_of_heap->Q3
open Go.Value renaming slice->L,string->T,pointer->YV
open _root_.Bool renaming false->F,eq_iff_iff->Ri,and_eq_true->Rk,and_true->SC,and_false->SG,true_and->Sy,false_eq_true->Tm,not_false->Um,true_eq_false->VU,true->YT
open _root_.List renaming getD_eq_getElem?_getD->Q5,length_append->RI,length_cons->RQ,length_nil->RR,take_append_of_le_length->SO,take_of_length_le->SQ,getElem?_append_right->Se,append_nil->Sj,length_take->Sm,take_take->Tc,nil_append->Tk,isSuffixOf_iff_suffix->U1,getLast?_append->U3,drop_eq_getElem_cons->US
open _root_.Nat renaming le_refl->QR,zero_le->QS,le_trans->Rn,le_add_right->Wl
open _root_.Option renaming none->N,some->S
open _root_.Or renaming inl->Y4,inr->Y5
open Go.Proofs.Tryz
open Go.RowKit
theorem ES(l:QF):(bJ l).length=8+l.length:=by
 unfold bJ;simp [aY];omega
theorem P6{c:bF}{k m n o j d e l:QJ}{g b:QF}{a i:Nat}(h:i≠9):(fH c k m n o g a j d e l)[i]? =(fH c k m n o b a j d e l)[i]? :=by
 have f:i=0\/i=1\/i=2\/i=3\/i=4\/i=5\/i=6\/i=7\/i=8\/i=10\/i=11\/i=12\/i=13\/i=14\/15<=i:=by omega
 rcases f with rfl | rfl | rfl | rfl | rfl | rfl | rfl | rfl | rfl | rfl | rfl | rfl | rfl | rfl | f
 all_goals first
  | rfl
  | (rw [Array.getElem?_eq_none (by simpa [fH] using f),Array.getElem?_eq_none (by simpa [fH] using f)])
def JP(E:Nat->Prop)(p:Nat)(c:bF)(all':QF)(T:Nat)(vC vDu vFa vH:QJ)(l:List ix)(due xh:List Nat)(w w':QI):Prop:=
 ∃vDu' vFa' k,dP E w' p c all' T vC vDu' vFa' vH l (due++List.replicate k T) (xh++List.replicate k 0)/\Hid (k=(bn all').1.items.length - due.length)/\(∀k,fo p vC vDu' vFa' l k->fo p vC vDu vFa l k\/w.heap.size<=k)/\aC (λk=>k=p\/vDu.ownBlock=S k\/vFa.ownBlock=S k) w w'
theorem Bc(E:Nat->Prop)(w:QI)(p:Nat)(c:bF)(d b:QF)(a:Nat)(M n o O:QJ)(l:List ix)(q Q:List Nat)(h:dP E w p c d a M n o O l q Q)(hl:d.length+8+b.length<=1048576)(hd:q.length<=1048576)(hf:Q.length=q.length):Calls prog 76 #[YV (S ⟨p,0,N⟩),T (bs b)] w λe w'=>e= .returned (.tuple #[])/\JP E p c (d++bJ b) a M n o O l q Q w w':=by
 obtain ⟨vD,vN,vU,vW,m,_,_⟩:=h.set;have c9:w.cell? ⟨p,9,N⟩=S (T (bs d)):=Q3 m _;have a6:=aq m;have HF:=K (A8 b w.drew (by omega));have a5:=ES b;have a7:=aj d;have a8:=aj (bJ b);have U:=K m;have s:=K h;have V:Hid (bs d++bs (bJ b)=bs (d++bJ b)):=K (by rw [aQ]);have a4:¬9223372036854775807 < d.length+(8+b.length):=by omega
 clear h m;go_enter func76,ntmps76;go_wp2_with fail
 go_region_law (first
  | (go_simp;go_at_call 128;refine HF.out.mono ?_;rintro e P ⟨rfl,C⟩;have R:Below w.heap.size w P:=((Below.refl _ w).drew).trans (C.mono (QR _));have u:=ae R U.out;have k9:P.cell? ⟨p,9,N⟩=S (T (bs d)):=(Q3 u _);have f9:=Lib.frozen_of_heap u 9;have z:=K R;clear C R u;dsimp only))
 all_goals
  obtain ⟨G,r⟩:=QE (P.setCell ⟨p,9,N⟩ (T (bs d++bs (bJ b))));rw [r];rw [V.out] at r;have u:=ae z.out U.out;have S2:aA p P G:=by rw [<-r];exact (aA.refl _ _).setCell _
  have K2:G.heap[p]? =S (.cells (fH c vD vN vU vW (d++bJ b) a M n o O) 133 (0,0)):=by
   rw [<-r];exact cP (j:=9) (v:=T (bs (d++bJ b))) u rfl
  have D:aC (λk=>k=p) w G:=(aC.below z.out).trans (aC.same S2) (λ_ _ e=>e);obtain ⟨Ap,t,_⟩:=s.out.post
  have r1:=bG s.out.yyV D (λg e y=>by
   obtain ⟨Z,e1⟩:=br s.out.yyV e
   exact dN e1 t (by decide) y)
  have r2:=bG s.out.xH D (λg e y=>by
   obtain ⟨Z,e1⟩:=br s.out.xH e
   exact dN e1 t (by decide) y)
  have Y:=K (uc 0 p a (fH c vD vN vU vW (d++bJ b) a M n o O) (d++bJ b) n o q Q G ⟨QS _,K2,rfl,rfl,rfl,r1,r2,s.out.zc⟩ rfl rfl (by rw [RI];omega) hd hf);have A:=K D;clear r u S2 K2 D t r1 r2 f9 k9;go_wp2_with fail
  refine Y.out.mono ?_;rintro e w3 ⟨A',a2,a3,k,rfl,d1,d2,d3,_,d5,d6⟩;have f:=K d1;have B:=K d2;have W:=K d5;have X:=K d6;clear d1 d2 d5 d6;go_wp2_with fail
  go_end0
  have C3:aC (λk=>k=p\/n.ownBlock=S k\/o.ownBlock=S k) w w3:=(A.out.mono (λ_ _ e=>Y4 e)).trans W.out (λ_ _ e=>e)
  obtain ⟨q1,q2,q3⟩:=s.out.wrote C3 f.out.block f.out.size (λi h9 a0 a1 a9 b0 b1 b2 x=>by
   rw [U.out] at x;injection x with x;injection x with x;rw [<-x,B.out i a0 a1]
   exact (P6 h9).symm) (by rw [B.out 9 (by decide) (by decide)];rfl) f.out.xQ f.out.xM f.out.due f.out.xh f.out.apart (λg e=>(X.out g e).imp id (λe=>e.imp id (λe=>by have:=A.out.size;omega)))
  exact ⟨rfl,a2,a3,k,q1,d3,q2,C3⟩
def sw(size:Int)(o:Option dm)(r:bf):Prop:=
 match o with
 | none=>r.inside=F
 | some b=>r.inside=YT/\b.bad=r.bad/\(b.bad=YT\/(b.text=(gw r.lines).1/\b.has=(gw r.lines).2)\/(size < (b.text.length:Int)/\size < ((gw r.lines).1.length:Int)))
def LZ(size:Int)(o:Option qN)(r:bf):Prop:=
 match o with
 | none=>r.begun=F/\r.inside=F
 | some t=>r.begun=YT/\r.xk=t.xk/\r.xd=t.xd/\sw size t.body r
structure lX(c:bF)(s:cj)(r:bf):Prop where
 xe:s.xe=c.xe.any (gd r.addr)
 xj:s.xj=r.xj
 known:s.known=r.known
 over:s.over=r.closed
 tx:LZ c.size s.tx r
def ka(c:bF)(_r:bf)(y:cj×List QF)(z:bf×QF):Prop:=lX c y.1 z.1/\y.2.flatten=z.2++[13,10]
section
variable {c:bF} {s:cj} {r:bf}
theorem LZ.out{a:Int}{o:Option qN}(h:LZ a o r):(o=N/\r.begun=F/\r.inside=F)\/∃t,o=some t/\r.begun=YT/\r.xk=t.xk/\r.xd=t.xd/\sw a t.body r:=by
 cases o with
 | none=>exact Y4 ⟨rfl,h⟩
 | some t=>exact Y5 ⟨t,rfl,h⟩
theorem fj(h:lX c s r):ka c r (cf c s dW) (r,gX):=⟨h,rfl⟩
theorem LM(h:lX c s r):ka c r (cf c s (mT 0)) (r,I2):=⟨h,rfl⟩
theorem Ll(h:lX c s r)(a:Bool):ka c r (cf c s (jW 2 a)) (if a then (r,gX) else ({r with closed:=YT},P7)):=by
 cases a
 case true=>exact fj h
 exact ⟨⟨h.xe,h.xj,h.known,rfl,h.tx⟩,rfl⟩
theorem La(h:lX c s r)(a:Bool):ka c r (cf c s (jW 3 a)) (if a then (r,gX) else (r,oW)):=by
 cases a
 case true=>exact fj h
 exact ⟨h,rfl⟩
theorem Lw(h:lX c s r)(b:r.inside=F)(a:Bool):ka c r (cf c s (jW 4 a)) (if a then (r,gX) else ({r with begun:=F},oW)):=by
 cases a
 case true=>exact fj h
 exact ⟨⟨h.xe,h.xj,h.known,h.over,⟨rfl,b⟩⟩,rfl⟩
theorem Ke(h:lX c s r)(a:Bool):ka c r (cf c s (jW 5 a)) (if a then (r,gX) else if (r.xj && r.begun && !r.xd.isEmpty)=F then (r,od) else ({r with inside:=YT,lines:=[],bad:=F},NH)):=by
 cases a
 case true=>exact fj h
 show ka c r (cf c s (mT 5)) (if (r.xj && r.begun && !r.xd.isEmpty)=F then (r,od) else ({r with inside:=YT,lines:=[],bad:=F},NH));unfold cf mT;simp only
 rcases h.tx.out with ⟨e,b,i⟩ | ⟨t,e,b,f,o,g⟩
 .have d:dy s 5=F:=by unfold dy gV;rw [e];rfl
  rw [d,b];simp only [if_true,SG,Bool.false_and];exact ⟨h,rfl⟩
 have d:dy s 5=(r.xj && r.begun && !r.xd.isEmpty):=by
  unfold dy gV;rw [e,h.xj,b,o];simp only [Option.map_some,SC];rw [Bool.and_comm]
  congr 1
  cases t.xd <;> rfl
 rw [d]
 cases (r.xj && r.begun && !r.xd.isEmpty)
 case false=>exact ⟨h,rfl⟩
 simp only [VU,if_false];rw [e];exact ⟨⟨h.xe,h.xj,h.known,h.over,⟨b,f,o,rfl,rfl,Y5 (Y4 ⟨rfl,rfl⟩)⟩⟩,rfl⟩
theorem Ky(h:lX c s r)(a:r.inside=F)(arg:QF):ka c r (cf c s (kU 6 arg)) (if fI arg then ({r with xj:=YT,begun:=F},[50,53,48,32]++cX c) else (r,gX)):=by
 unfold kU
 cases fI arg
 case false=>exact fj h
 exact ⟨⟨h.xe,rfl,h.known,h.over,⟨rfl,a⟩⟩,by simp [cf,mT,dy,gV]⟩
theorem Kk(h:lX c s r)(a:r.inside=F)(arg:QF):ka c r (cf c s (kU 7 arg)) (if fI arg then ({r with xj:=YT,begun:=F},pN c) else (r,gX)):=by
 unfold kU
 cases fI arg
 case false=>exact fj h
 exact ⟨⟨h.xe,rfl,h.known,h.over,⟨rfl,a⟩⟩,by simp [cf,mT,dy,gV,pN]⟩
theorem rn(h:lX c s r):s.tx.isSome=r.begun:=by
 rcases h.tx.out with ⟨e,b,_⟩ | ⟨t,e,b,_⟩
 .rw [e,b];rfl
 rw [e,b];rfl
theorem JS(h:lX c s r)(b:dk c=YT)(arg:QF):ka c r (cf c s (om arg)) (gu c r arg):=by
 rw [Mb];unfold gu
 cases km arg [80,76,65,73,78,32]
 case false=>exact fj h
 simp only [VU,if_false]
 cases (jG (arg.drop 6)).2
 case false=>exact fj h
 simp only [VU,if_false];unfold cf;simp only;have e:dy s 8=r.xj:=by rw [<-h.xj];rfl
 rw [e,rn h,h.known, <-MK b]
 cases d:r.xj
 case false=>exact ⟨h,rfl⟩
 simp only [VU,if_false,Sy];have a:(r.begun || r.known)= !(!r.begun && !r.known):=by cases r.begun <;> cases r.known <;> rfl
 rw [a]
 cases f:(!r.begun && !r.known)
 case false=>exact ⟨h,rfl⟩
 simp only [Bool.not_true,Tm,if_false,VU]
 cases nz c (jG (arg.drop 6)).1
 case false=>exact ⟨h,rfl⟩
 exact ⟨⟨h.xe,h.xj.trans d,rfl,h.over,h.tx⟩,rfl⟩
theorem KX(h:lX c s r)(a:r.inside=F)(arg:QF):ka c r (cf c s (pQ arg)) (hZ c r arg):=by
 rw [MU];unfold hZ
 cases km arg [70,82,79,77,58,60]
 case false=>exact fj h
 simp only [VU,if_false]
 cases rz (aJ 62 (arg.drop 6)).2.2 (bL (aJ 62 (arg.drop 6)).1).2 (aJ 62 (arg.drop 6)).1 (aJ 62 (arg.drop 6)).2.1
 case false=>exact fj h
 simp only [VU,if_false];unfold cf;simp only;have d:dy s 9=r.xj:=by rw [<-h.xj];rfl
 rw [d,rn h]
 cases b:r.xj
 case false=>exact ⟨h,rfl⟩
 simp only [VU,if_false,Sy]
 cases e:r.begun
 case true=>exact ⟨h,rfl⟩
 simp only [Um,Tm,VU,if_false]
 split
 .exact ⟨h,rfl⟩
 exact ⟨⟨h.xe,h.xj.trans b,h.known,h.over,⟨rfl,rfl,rfl,a⟩⟩,rfl⟩
theorem Lm(h:lX c s r)(k:r.inside=F)(x:∀t,s.tx=some t->(t.xd.length:Int)<=c.most)(arg:QF):ka c r (cf c s (pW arg)) (gQ c r arg):=by
 rw [Ny];unfold gQ
 cases km arg [84,79,58,60]
 case false=>exact fj h
 simp only [VU,if_false]
 cases p:((aJ 62 (arg.drop 4)).2.2 && (bL (aJ 62 (arg.drop 4)).1).2 && (aJ 62 (arg.drop 4)).2.1.isEmpty)
 case false=>exact fj h
 simp only [VU,if_false];simp only [Rk] at p;obtain ⟨⟨_,q⟩,_⟩:=p;rw [PW q, <-(BR q).1];obtain ⟨u,l⟩:∃n,b9 (aJ 62 (arg.drop 4)).1=n:=⟨_,rfl⟩;rw [l];unfold cf;simp only
 rcases h.tx.out with ⟨e,b,i⟩ | ⟨t,e,b,f,o,d⟩
 .have m:dy s 10=F:=by unfold dy gV;rw [e];rfl
  rw [m,b,SG];simp only [if_true];exact ⟨h,rfl⟩
 have m:dy s 10=r.xj:=by unfold dy gV;rw [e, <-h.xj];rfl
 rw [m,b,SC]
 cases w:r.xj
 case false=>exact ⟨h,rfl⟩
 simp only [VU,if_false];rw [e];simp only;have y:=x t e;rw [o, <-h.xe, <-h.known];unfold iE gR;have z:sw c.size t.body r:=d
 cases v:t.xd.contains u
 case true=>exact ⟨⟨h.xe,h.xj,h.known,h.over,⟨b,f,o,d⟩⟩,rfl⟩
 simp only [Tm,if_false]
 by_cases g:c.most<=(t.xd.length:Int)
 .have a:(t.xd.length:Int)=c.most:=by omega
  rw [if_pos g];simp only [a,if_true];exact ⟨⟨h.xe,h.xj,h.known,h.over,⟨b,f,o,d⟩⟩,rfl⟩
 have a:¬(t.xd.length:Int)=c.most:=by omega
 rw [if_neg g];simp only [a,if_false]
 cases (s.xe || s.known || iJ c u)
 case false=>exact ⟨⟨h.xe,h.xj,h.known,h.over,⟨b,f,o,d⟩⟩,rfl⟩
 simp only [if_true,VU,if_false];refine ⟨⟨h.xe,h.xj.trans w,rfl,h.over,⟨rfl,f,rfl,?_⟩⟩,rfl⟩;show sw c.size t.body _
 cases j:t.body with
 | none=>exact k
 | some b'=>
  rw [j] at d;exact d
theorem Mg(h:lX c s r)(n:dk c=YT)(b:r.inside=F)(o:∀t,s.tx=some t->(t.xd.length:Int)<=c.most)(W arg:QF)(a:Bool):ka c r (cf c s (Bx W arg a)) (aR c r W arg a):=by
 unfold Bx aR
 by_cases e:W=[81,85,73,84]
 .rw [if_pos e,if_pos e];exact Ll h a
 rw [if_neg e,if_neg e]
 by_cases d:W=[82,83,69,84]
 .rw [if_neg (by rw [d];decide),if_pos d,if_pos d];exact Lw h b a
 rw [if_neg d,if_neg d]
 by_cases f:W=[78,79,79,80]
 .rw [if_pos f,if_pos f];exact La h a
 rw [if_neg f,if_neg f]
 by_cases g:W=[68,65,84,65]
 .rw [if_pos g,if_pos g];exact Ke h a
 rw [if_neg g,if_neg g]
 by_cases i:W=[72,69,76,79]
 .rw [if_pos i,if_pos i];exact Ky h b arg
 rw [if_neg i,if_neg i]
 by_cases j:W=[69,72,76,79]
 .rw [if_pos j,if_pos j];exact Kk h b arg
 rw [if_neg j,if_neg j]
 by_cases k:W=[65,85,84,72]
 .rw [if_pos k,if_pos k];exact JS h n arg
 rw [if_neg k,if_neg k]
 by_cases l:W=[77,65,73,76]
 .rw [if_pos l,if_pos l];exact KX h b arg
 rw [if_neg l,if_neg l]
 by_cases m:W=[82,67,80,84]
 .rw [if_pos m,if_pos m];exact Lm h b o arg
 rw [if_neg m,if_neg m];exact LM h
end
structure CA(c:bF)(T:Nat)(y:cj×aa×QF×List QF)(z:bf×QF×QF):Prop where
 rel:lX c y.1 z.1
 xb:y.2.2.1=z.2.1
 said:y.2.2.2.flatten=z.2.2
 ks:KS y.2.1 T z.2.1
section
variable {c:bF} {s:cj} {r:bf} {S:aa} {all:QF} {T:Nat}
theorem Ik(l:List QF)(a:QF):(gw l).1.length<=(gw (l++[a])).1.length:=by
 rw [lM];simp only
 split
 .simp only [RI];omega
 simp only [RI];omega
theorem Oo{b:dm}{a:Int}(h:sw a (some b) r)(l:QF):sw a (some (b.add (bu l).1 (bu l).2 a)) {r with bad:=r.bad || (bu l).2,lines:=r.lines++[dC l]}:=by
 obtain ⟨n,o,g⟩:=h;have d:(b.add (bu l).1 (bu l).2 a).bad=(b.bad || (bu l).2):=by unfold dm.add;split <;> rfl
 refine ⟨n,by rw [d,o],?_⟩
 rw [d]
 cases i:(bu l).2
 case true=>exact Y4 (Bool.or_true _)
 have m:(bu l).1=l:=by
  unfold bu at i ⊢
  split at i
  .cases i
  rename_i p;rw [if_neg p]
 rw [m];have k:=Ik r.lines (dC l)
 rcases g with g | ⟨e,j⟩ | ⟨e,j⟩
 .exact Y4 (by rw [g];rfl)
 .right
  unfold dm.add
  by_cases f:a < (b.text.length:Int)
  .rw [if_pos f];refine Y5 ⟨f,?_⟩;rw [e] at f;show a < ((gw (r.lines++[dC l])).1.length:Int);omega
  rw [if_neg f]
  left
  show (if b.has=YT then b.text++[13,10] else b.text)++dC l=(gw (r.lines++[dC l])).1/\YT=(gw (r.lines++[dC l])).2;rw [lM,e,j];exact ⟨rfl,rfl⟩
 right
 unfold dm.add;rw [if_pos e];refine Y5 ⟨e,?_⟩;show a < ((gw (r.lines++[dC l])).1.length:Int);omega
theorem EL(l:QF):(bu l).1=[46] ↔ l=[46]:=by
 constructor
 .intro h;unfold bu at h
  split at h
  .cases h
  exact h
 intro h;subst h;rfl
theorem Mp(h:lX c s r)(l:iG c s S all)(a:KS S T all)(y:dk c=YT){t:qN}(u:s.tx=some t){b:dm}(k:t.body=some b):CA c T (rh c s S all t b) ({r with inside:=F,begun:=F},(hY c T all r).1,(hY c T all r).2++[13,10]):=by
 have v:=h.tx;rw [u] at v;obtain ⟨G,B,C,w⟩:=v;rw [k] at w;obtain ⟨M,D,d⟩:=w;have hrel:∀o,lX c {s with tx:=N} {r with inside:=F,begun:=F,bad:=o}:=λo=>⟨h.xe,h.xj,h.known,h.over,⟨rfl,rfl⟩⟩;unfold rh hY;rw [<-D]
 cases f:b.bad
 case true=>exact ⟨hrel _,rfl,rfl,a⟩
 simp only [Tm,if_false];rw [f] at d
 have i:(c.size < (b.text.length:Int)) ↔ (c.size < ((gw r.lines).1.length:Int)):=by
  rcases d with d | ⟨d,_⟩ | ⟨d,x⟩
  .cases d
  .rw [d]
  exact ⟨λ_=>x,λ_=>d⟩
 by_cases g:c.size < (b.text.length:Int)
 .rw [if_pos g,if_pos (i.1 g)];exact ⟨hrel _,rfl,rfl,a⟩
 rw [if_neg g,if_neg (λe=>g (i.2 e))]
 have n:b.text=(gw r.lines).1:=by
  rcases d with d | ⟨d,_⟩ | ⟨d,x⟩
  .cases d
  .exact d
  exact absurd d g
 have z:uC T all r=xz S t.xk t.xd b.text:=by
  unfold uC xz;rw [n,B,C,a.time, <-a.items]
 have E:=gH y;obtain ⟨q,_⟩:=l.tx t u;have m:=Ft l.xo q k (by omega);have A:=va l.xo q k;have p:=pw A;rw [z];unfold tH
 by_cases j:c.room < ((all.length+(8+(bT (xz S t.xk t.xd b.text)).length):Nat):Int)
 .rw [if_pos j,decide_eq_true j];exact ⟨hrel _,rfl,rfl,a⟩
 rw [if_neg j,decide_eq_false j];simp only [Um,if_true];refine ⟨hrel _,rfl,?_,a.xu m rfl (by show S.time=T;exact a.time) (by omega)⟩;show ([50,53,48,32,107,101,112,116,32]++Lib.itoa ((S.items.length:Int)+1)++[13,10])++[]=_;rw [Sj];rfl
theorem KQ(h:lX c s r)(o:iG c s S all)(f:KS S T all)(n:dk c=YT)(l:QF):CA c T (bH c s S all (bu l).1 (bu l).2) (cV c T all r l):=by
 have i:r.inside=F->CA c T ((cf c s (di (bu l).1 (bu l).2)).1,S,all,(cf c s (di (bu l).1 (bu l).2)).2) (cV c T all r l):=λd=>by
  unfold cV;rw [d];simp only [Tm,if_false]
  cases a:(bu l).2
  case true=>exact ⟨h,rfl,rfl,f⟩
  have u:(bu l).1=l:=by
   unfold bu at a ⊢
   split at a
   .cases a
   rename_i v;rw [if_neg v]
  rw [u];unfold di;simp only [Tm,if_false];obtain ⟨p,q⟩:=Mg h n d (λt e=>(o.tx t e).2) (Lib.toUpperA (aJ 32 l).1) (aJ 32 l).2.1 (aJ 32 l).2.2;exact ⟨p,rfl,q,f⟩
 cases g:s.tx with
 | none=>
  have e:bH c s S all (bu l).1 (bu l).2=((cf c s (di (bu l).1 (bu l).2)).1,S,all,(cf c s (di (bu l).1 (bu l).2)).2):=by unfold bH;rw [g]
  rw [e];have j:=h.tx;rw [g] at j;exact i j.2
 | some t=>
  have j:=h.tx;rw [g] at j;obtain ⟨w,x,y,k⟩:=j
  cases a:t.body with
  | none=>
   have e:bH c s S all (bu l).1 (bu l).2=((cf c s (di (bu l).1 (bu l).2)).1,S,all,(cf c s (di (bu l).1 (bu l).2)).2):=by unfold bH;rw [g];simp only;rw [a]
   rw [e];rw [a] at k;exact i k
  | some b=>
   have e:bH c s S all (bu l).1 (bu l).2=fc c s S all t b (bu l).1 (bu l).2:=by unfold bH;rw [g];simp only;rw [a]
   rw [e];rw [a] at k;have d:r.inside=YT:=k.1;unfold fc cV;rw [d];simp only [if_true]
   by_cases m:l=[46]
   .rw [if_pos m,if_pos ((EL l).2 m)];exact Mp h o f n g a
   rw [if_neg m,if_neg (λe=>m ((EL l).1 e))];exact ⟨⟨h.xe,h.xj,h.known,h.over,⟨w,x,y,rfl,(Oo k l).2⟩⟩,rfl,rfl,f⟩
end
theorem nn(x:QF)(b:UInt8):j9 (x++[b])=(decide (b=10) && (x.getLast? == S 13)):=by
 unfold j9 Lib.hasSuffix
 rcases List.eq_nil_or_concat x with rfl | ⟨y,a,rfl⟩
 .rw [Ri,U1]
  constructor
  .intro h;have:=h.length_le;simp at this
  intro h;simp at h
 rw [List.concat_eq_append,Ri,U1,U3];simp only [List.getLast?_singleton,Option.some_or,Rk,decide_eq_true_eq,beq_iff_eq,Option.some.injEq]
 constructor
 .rintro ⟨t,i⟩;have e:t++[13]++[10]=(y++[a])++[b]:=by rw [<-i];simp
  obtain ⟨g,d⟩:=List.append_inj' e rfl;obtain ⟨_,f⟩:=List.append_inj' g rfl;injection d with d;injection f with f;exact ⟨d.symm,f.symm⟩
 rintro ⟨rfl,rfl⟩;exact ⟨y,by simp⟩
theorem Kl(b:UInt8):j9 [b]=F:=by
 have:=nn [] b;rw [Tk] at this;rw [this];simp
def fF(came:QF):QF:=if came.length<=102 then came else came.take 101++[came.getLastD 0]
theorem Gl(x:QF):(fF x).getLast? =x.getLast? :=by
 unfold fF
 split
 .rfl
 rename_i h
 rw [U3];simp only [List.getLast?_singleton,Option.some_or]
 cases x with
 | nil=>simp at h
 | cons a t=>rw [List.getLast?_eq_some_getLast (by simp),List.getLastD_eq_getLast?,List.getLast?_eq_some_getLast (by simp)];rfl
theorem uf(x:QF)(b:UInt8):j9 (fF x++[b])=j9 (x++[b]):=by rw [nn,nn,Gl]
theorem wO{l:QF}(h:100 < l.length):bu l=([],YT):=by unfold bu;rw [if_pos (by simp [h])]
theorem Gm(x:QF)(b:UInt8):bu ((fF x++[b]).take ((fF x++[b]).length - 2))=bu ((x++[b]).take ((x++[b]).length - 2)):=by
 unfold fF
 split
 .rfl
 rename_i h
 rw [wO,wO]
 .rw [Sm,RI];simp only [RQ,RR];omega
 rw [Sm,RI,RI,Sm];simp only [RQ,RR];omega
theorem ug(x:QF)(b:UInt8):lV (fF x++[b])=fF (x++[b]):=by
 unfold lV;have i:(x++[b]).length=x.length+1:=by simp
 have a:(x++[b]).getLastD 0=b:=by rw [List.getLastD_eq_getLast?,U3];rfl
 by_cases g:x.length<=101
 .have d:fF x=x:=by unfold fF;rw [if_pos (by omega)]
  have f:fF (x++[b])=x++[b]:=by unfold fF;rw [if_pos (by omega)]
  rw [d,f,if_neg (by omega)]
 have f:fF (x++[b])=x.take 101++[b]:=by
  unfold fF;rw [if_neg (by omega),a,SO (by omega)]
 rw [f]
 by_cases h:x.length<=102
 .have d:fF x=x:=by unfold fF;rw [if_pos (by omega)]
  rw [d,if_pos (by omega),SO (by omega)]
  congr 2
  rw [Q5,Se (by omega),show 102 - x.length=0 by omega]
  rfl
 have d:fF x=x.take 101++[x.getLastD 0]:=by unfold fF;rw [if_neg (by omega)]
 have e:(x.take 101++[x.getLastD 0]).length=102:=by rw [RI,Sm];simp only [RQ,RR];omega
 rw [d,if_pos (by rw [RI,e];simp),SO (by omega),SO (by rw [Sm];omega),Tc]
 congr 2
 rw [Q5,Se (by omega),e];rfl
def j4(c:bF)(T:Nat)(x:bf×QF×QF)(b:UInt8):bf×QF×QF:=
 if x.1.closed then ({x.1 with came:=x.1.came++[b]},x.2.1,x.2.2)
 else if j9 (x.1.came++[b]) then
  ((cV c T x.2.1 {x.1 with came:=[]} ((x.1.came++[b]).take ((x.1.came++[b]).length - 2))).1,(cV c T x.2.1 {x.1 with came:=[]} ((x.1.came++[b]).take ((x.1.came++[b]).length - 2))).2.1,x.2.2++(cV c T x.2.1 {x.1 with came:=[]} ((x.1.came++[b]).take ((x.1.came++[b]).length - 2))).2.2)
 else ({x.1 with came:=x.1.came++[b]},x.2.1,x.2.2)
def jk(c:bF)(T:Nat)(x:bf×QF×QF)(l:QF):bf×QF×QF:=l.foldl (j4 c T) x
def rR(c:bF)(T:Nat)(all:QF)(r:bf)(b:QF):bf×QF×QF:=jk c T ({r with came:=[]},all,[]) (r.came++b)
theorem GQ(c:bF)(r:bf)(arg X:QF):gu c {r with came:=X} arg=({(gu c r arg).1 with came:=X},(gu c r arg).2):=by
 unfold gu
 split
 .rfl
 split
 .rfl
 simp only
 split
 .rfl
 split <;> rfl
theorem Iy(c:bF)(r:bf)(arg X:QF):hZ c {r with came:=X} arg=({(hZ c r arg).1 with came:=X},(hZ c r arg).2):=by
 unfold hZ
 split
 .rfl
 split
 .rfl
 simp only
 split
 .rfl
 split <;> rfl
theorem IK(c:bF)(r:bf)(arg X:QF):gQ c {r with came:=X} arg=({(gQ c r arg).1 with came:=X},(gQ c r arg).2):=by
 have a:∀d,rC c {r with came:=X} d=rC c r d:=λd=>rfl;unfold gQ
 split
 .rfl
 split
 .rfl
 simp only [a]
 split
 .rfl
 split
 .rfl
 split
 .rfl
 split <;> rfl
theorem Aw(c:bF)(r:bf)(W arg:QF)(a:Bool)(X:QF):aR c {r with came:=X} W arg a=({(aR c r W arg a).1 with came:=X},(aR c r W arg a).2):=by
 unfold aR;simp only [GQ,Iy,IK]
 split
 .split <;> rfl
 split
 .split <;> rfl
 split
 .split <;> rfl
 split
 .split
  .rfl
  split <;> rfl
 split
 .split <;> rfl
 split
 .split <;> rfl
 split
 .rfl
 split
 .rfl
 split <;> rfl
theorem wN(c:bF)(T:Nat)(a:QF)(r:bf)(l X:QF):cV c T a {r with came:=X} l=({(cV c T a r l).1 with came:=X},(cV c T a r l).2.1,(cV c T a r l).2.2):=by
 have b:hY c T a {r with came:=X}=hY c T a r:=rfl;unfold cV;rw [b];simp only [Aw]
 split
 .split <;> rfl
 split <;> rfl
theorem oL(c:bF)(T:Nat)(a:QF)(r:bf)(l:QF):(cV c T a r l).1.came=r.came:=by
 have:=wN c T a r l r.came;have e:({r with came:=r.came}:bf)=r:=rfl;rw [e] at this;rw [this]
def wW(x:QF):Prop:=∀k,j9 (x.take k)=F
theorem Fu:wW []:=λk=>by rw [List.take_nil];rfl
theorem K9{x:QF}(h:wW x){b:UInt8}(a:j9 (x++[b])=F):wW (x++[b]):=λk=>by
 by_cases d:k<=x.length
 .rw [SO d];exact h k
 rw [SQ (by simp;omega)];exact a
theorem Nf{x y:QF}(h:wW (x++y)):wW x:=λk=>by
 by_cases a:k<=x.length
 .have:=h k;rw [SO a] at this;exact this
 have:=h x.length;rw [List.take_left] at this;rw [SQ (by omega)];exact this
section
variable {c:bF} {T:Nat}
theorem Dd(x:bf×QF×QF)(a b:QF):jk c T x (a++b)=jk c T (jk c T x a) b:=by
 unfold jk;rw [List.foldl_append]
theorem lJ(x:bf×QF×QF)(b:UInt8)(l:QF):jk c T x (b::l)=jk c T (j4 c T x b) l:=rfl
theorem Gu(r:bf)(a d:QF)(b:UInt8):j4 c T ({r with came:=[]},a,d) b=({r with came:=[b]},a,d):=by
 unfold j4;simp only [Tk,Kl,Tm,if_false]
 split <;> rfl
theorem tA(r:bf)(a d l:QF):jk c T ({r with came:=[]},a,d) l=jk c T ({r with came:=l.take 1},a,d) (l.drop 1):=by
 cases l with
 | nil=>rfl
 | cons b t=>rw [lJ,Gu];rfl
theorem ri:∀(l:QF) (r:bf) (a d:QF),r.closed=YT->jk c T (r,a,d) l=({r with came:=r.came++l},a,d)
 | [],r,a,d,_=>by rw [Sj];rfl
 | b::l,r,a,d,h=>by
  have e:j4 c T (r,a,d) b=({r with came:=r.came++[b]},a,d):=by unfold j4;rw [if_pos h]
  rw [lJ,e,ri l {r with came:=r.came++[b]} a d h];simp
theorem tC:∀(l:QF) (r:bf) (a d:QF),wW (r.came++l)->jk c T (r,a,d) l=({r with came:=r.came++l},a,d)
 | [],r,a,d,_=>by rw [Sj];rfl
 | b::l,r,a,d,h=>by
  have f:wW ((r.came++[b])++l):=by rw [List.append_assoc];exact h
  have g:j9 (r.came++[b])=F:=by
   have:=Nf f (r.came++[b]).length;rw [List.take_length] at this;exact this
  have e:j4 c T (r,a,d) b=({r with came:=r.came++[b]},a,d):=by
   unfold j4;simp only [g,Tm,if_false]
   split <;> rfl
  rw [lJ,e,tC l {r with came:=r.came++[b]} a d f];simp
theorem NA{r:bf}(h:wW r.came)(a b:QF):rR c T a r b=jk c T (r,a,[]) b:=by
 unfold rR;rw [Dd,tC r.came {r with came:=[]} a [] (by rw [Tk];exact h),Tk]
structure na(c:bF)(T:Nat)(y:cj×aa×QF×QF)(x:bf×QF×QF):Prop where
 rel:lX c y.1 x.1
 wait:x.1.closed=F->y.1.wait=fF x.1.came/\wW x.1.came
 xb:y.2.2.1=x.2.1
 said:y.2.2.2=x.2.2
 ks:KS y.2.1 T x.2.1
 inv:iG c y.1 y.2.1 y.2.2.1
theorem LC{y:cj×aa×QF×QF}{x:bf×QF×QF}(h:na c T y x)(A:dk c=YT)(b:UInt8):na c T (ia c y b) (j4 c T x b):=by
 obtain ⟨s,d,g,f⟩:=y;obtain ⟨r,E,C⟩:=x;obtain ⟨i,u,v,w,t,k⟩:=h;simp only at i u v w t k;subst v;subst w;have B:s.over=r.closed:=i.over
 cases j:r.closed
 case true=>
  have n:ia c (s,d,g,f) b=(s,d,g,f):=by unfold ia;rw [if_pos (by rw [<-j];exact B)]
  have o:j4 c T (r,g,f) b=({r with came:=r.came++[b]},g,f):=by unfold j4;rw [if_pos j]
  rw [n,o];exact ⟨⟨i.xe,i.xj,i.known,i.over,i.tx⟩,(λe=>by rw [show ({r with came:=r.came++[b]}:bf).closed=r.closed from rfl,j] at e;cases e),rfl,rfl,t,k⟩
 obtain ⟨D,U⟩:=u j;have q:s.over=F:=by rw [B,j]
 cases p:j9 (r.came++[b])
 case false=>
  have n:ia c (s,d,g,f) b=({s with wait:=fF (r.came++[b])},d,g,f):=by
   unfold ia lW;rw [if_neg (by rw [q];decide),D,uf,p,ug];rfl
  have o:j4 c T (r,g,f) b=({r with came:=r.came++[b]},g,f):=by
   unfold j4;rw [if_neg (by rw [j];decide),if_neg (by rw [p];decide)]
  rw [n,o];refine ⟨⟨i.xe,i.xj,i.known,i.over,i.tx⟩,λ_=>⟨rfl,K9 U p⟩,rfl,rfl,t,⟨k.tx,k.time,k.len,k.xb,?_⟩⟩;show (fF (r.came++[b])).length<=102;rw [<-ug];exact zV _
 obtain ⟨a,z⟩:=QE ((r.came++[b]).take ((r.came++[b]).length - 2))
 have n:ia c (s,d,g,f) b=((bH c {s with wait:=[]} d g (bu a).1 (bu a).2).1,(bH c {s with wait:=[]} d g (bu a).1 (bu a).2).2.1,(bH c {s with wait:=[]} d g (bu a).1 (bu a).2).2.2.1,f++(bH c {s with wait:=[]} d g (bu a).1 (bu a).2).2.2.2.flatten):=by
  unfold ia lW;rw [if_neg (by rw [q];decide),D,uf,p,Gm,z];rfl
 have o:j4 c T (r,g,f) b=((cV c T g {r with came:=[]} a).1,(cV c T g {r with came:=[]} a).2.1,f++(cV c T g {r with came:=[]} a).2.2):=by
  unfold j4;rw [if_neg (by rw [j];decide),if_pos p,z]
 rw [n,o];have hrel:lX c {s with wait:=[]} {r with came:=[]}:=⟨i.xe,i.xj,i.known,i.over,i.tx⟩;have l:iG c {s with wait:=[]} d g:=⟨k.tx,k.time,k.len,k.xb,QS _⟩;obtain ⟨O,P,Q,R⟩:=KQ hrel l t A a;obtain ⟨G,M,_⟩:=nt A l (bu a).1 (bu a).2 (Fh a).1;have m:=oL c T g {r with came:=[]} a;refine ⟨O,λ_=>?_,P,congrArg (f++·) Q,R,G⟩;simp only;rw [M,m];exact ⟨rfl,Fu⟩
theorem BN(a:dk c=YT):∀(l:QF) {y:cj×aa×QF×QF} {x:bf×QF×QF},na c T y x->na c T (dx c y l) (jk c T x l)
 | [],_,_,h=>h
 | b::l,_,_,h=>BN a l (LC h a b)
theorem Lq(e:dk c=YT){s:cj}{a:aa}{r:bf}{d:QF}(h:na c T (s,a,d,[]) (r,d,[]))(f:r.closed=F)(b:QF):na c T (dx c (s,a,d,[]) b) (rR c T d r b):=by
 rw [NA (h.wait f).2];exact BN e b h
end
section
variable {c:bF} {T:Nat}
theorem Ko(r:bf)(all a:QF){k:Nat}(b:r.came.length<=k+1):jk c T ({r with came:=r.came.take (k+1)},all,a) (r.came.drop (k+1))=(r,all,a):=by
 rw [SQ b,List.drop_eq_nil_iff.2 b];rfl
theorem Hp(r:bf)(all a:QF)(k:Nat)(b:r.closed=YT):jk c T ({r with came:=r.came.take (k+1)},all,a) (r.came.drop (k+1))=(r,all,a):=by
 rw [ri _ {r with came:=r.came.take (k+1)} all a b];show (({r with came:=r.came.take (k+1)++r.came.drop (k+1)}:bf),all,a)=_;rw [List.take_append_drop]
theorem Jw{l:QF}{k:Nat}(a:k+1 < l.length):j9 (l.take (k+1)++[l[k+1]])=(decide (l[k+1]=10) && decide (l[k]=13)):=by
 rw [nn]
 congr 1
 rw [List.getLast?_take];simp only [Nat.add_one_ne_zero,if_false,Nat.add_sub_cancel];rw [List.getElem?_eq_getElem (by omega)];rw [Ri];simp
theorem Hq(r:bf)(all a:QF){k:Nat}(b:k+1 < r.came.length)(d:r.closed=F)(g:¬(r.came[k]=13/\r.came[k+1]=10)):jk c T ({r with came:=r.came.take (k+1)},all,a) (r.came.drop (k+1))=jk c T ({r with came:=r.came.take (k+1+1)},all,a) (r.came.drop (k+1+1)):=by
 rw [US b,lJ]
 have f:j9 (r.came.take (k+1)++[r.came[k+1]])=F:=by
  rw [Jw b,Bool.and_eq_false_iff,decide_eq_false_iff_not,decide_eq_false_iff_not]
  by_cases h:r.came[k+1]=10
  .exact Y5 (λe=>g ⟨e,h⟩)
  exact Y4 h
 have e:j4 c T ({r with came:=r.came.take (k+1)},all,a) r.came[k+1]=({r with came:=r.came.take (k+1)++[r.came[k+1]]},all,a):=by
  unfold j4;rw [if_neg (by simp only;rw [d];decide),if_neg (by simp only;rw [f];decide)]
 rw [e,List.take_succ_eq_append_getElem b]
theorem Ho(r:bf)(all a:QF){k:Nat}(g:k+1 < r.came.length)(m:r.closed=F)(j:r.came[k]=13)(l:r.came[k+1]=10)(z:bf×QF×QF)(p:cV c T all {r with came:=r.came.drop (k+2)} (r.came.take k)=z):jk c T ({r with came:=r.came.take (k+1)},all,a) (r.came.drop (k+1))=jk c T ({z.1 with came:=z.1.came.take (0+1)},z.2.1,a++z.2.2) (z.1.came.drop (0+1)):=by
 rw [US g,lJ]
 have n:j9 (r.came.take (k+1)++[r.came[k+1]])=YT:=by
  rw [Jw g,j,l];rfl
 obtain ⟨y,b⟩:=QE (cV c T all {r with came:=[]} (r.came.take k));have d:y.1.came=[]:=by rw [<-b,oL]
 have f:z=({y.1 with came:=r.came.drop (k+2)},y.2.1,y.2.2):=by
  have:=wN c T all {r with came:=[]} (r.came.take k) (r.came.drop (k+2));rw [b] at this;rw [<-p];exact this
 have o:(r.came.take (k+1)++[r.came[k+1]]).take ((r.came.take (k+1)++[r.came[k+1]]).length - 2)=r.came.take k:=by
  have h:(r.came.take (k+1)++[r.came[k+1]]).length - 2=k:=by
   rw [RI,Sm];simp only [RQ,RR];omega
  rw [h,SO (by rw [Sm];omega),Tc]
  congr 1
  omega
 have e:j4 c T ({r with came:=r.came.take (k+1)},all,a) r.came[k+1]=(y.1,y.2.1,a++y.2.2):=by
  unfold j4;rw [if_neg (by simp only;rw [m];decide),if_pos (by simp only;exact n)];simp only;rw [o,b]
 rw [e,f];have i:y.1={y.1 with came:=[]}:=by rw [<-d]
 conv=>lhs;rw [i]
 rw [tA]
theorem FL(all:QF)(r:bf)(b:QF):rR c T all r b=jk c T ({r with came:=(r.came++b).take (0+1)},all,[]) ((r.came++b).drop (0+1)):=by
 unfold rR;rw [tA]
end
structure RB(r:bf):Prop where
 addr:0<=r.addr
 xk:r.xk.length<=255
 xd:r.xd.length<=10
 each:∀t∈r.xd,t.length<=255
section
variable {c:bF} {T:Nat} {r:bf} {all:QF}
theorem BQ(l:QF):(bL l).1.length<=255:=by
 have:=pf l;unfold bL;simp only [RI,RQ];omega
theorem Eo(h:RB r)(arg:QF):RB (gu c r arg).1/\(gu c r arg).1.lines=r.lines:=by
 unfold gu
 split
 .exact ⟨h,rfl⟩
 split
 .exact ⟨h,rfl⟩
 split
 .exact ⟨h,rfl⟩
 split
 .exact ⟨⟨h.addr,h.xk,h.xd,h.each⟩,rfl⟩
 exact ⟨h,rfl⟩
theorem Fl(h:RB r)(arg:QF):RB (hZ c r arg).1/\(hZ c r arg).1.lines=r.lines:=by
 unfold hZ
 split
 .exact ⟨h,rfl⟩
 split
 .exact ⟨h,rfl⟩
 split
 .exact ⟨h,rfl⟩
 split
 .exact ⟨h,rfl⟩
 refine ⟨⟨h.addr,?_,QS _,(λt a=>by cases a)⟩,rfl⟩;simp only
 split
 .exact QS _
 exact BQ _
theorem FF(b:dk c=YT)(h:RB r)(arg:QF):RB (gQ c r arg).1/\(gQ c r arg).1.lines=r.lines:=by
 have e:=gH b;unfold gQ
 split
 .exact ⟨h,rfl⟩
 split
 .exact ⟨h,rfl⟩
 split
 .exact ⟨h,rfl⟩
 split
 .exact ⟨h,rfl⟩
 split
 .exact ⟨h,rfl⟩
 split
 .exact ⟨h,rfl⟩
 rename_i d _
 refine ⟨⟨h.addr,h.xk,?_,λt a=>?_⟩,rfl⟩
 .simp only [RI,RQ,RR];omega
 simp only [List.mem_append,List.mem_singleton] at a
 rcases a with a | a
 .exact h.each t a
 rw [a];exact BQ _
theorem ED(f:dk c=YT)(h:RB r)(W arg:QF)(d:Bool):RB (aR c r W arg d).1/\jq (aR c r W arg d).1.lines<=jq r.lines:=by
 have a:∀{b:bf},b.addr=r.addr->b.xk=r.xk->b.xd=r.xd->b.lines=r.lines->RB b/\jq b.lines<=jq r.lines:=λg i e j=>⟨⟨by rw [g];exact h.addr,by rw [i];exact h.xk,by rw [e];exact h.xd,by rw [e];exact h.each⟩,by rw [j];exact QR _⟩
 unfold aR
 split
 .split <;> exact a rfl rfl rfl rfl
 split
 .split <;> exact a rfl rfl rfl rfl
 split
 .split <;> exact a rfl rfl rfl rfl
 split
 .split
  .exact a rfl rfl rfl rfl
  split
  .exact a rfl rfl rfl rfl
  exact ⟨⟨h.addr,h.xk,h.xd,h.each⟩,QS _⟩
 split
 .split <;> exact a rfl rfl rfl rfl
 split
 .split <;> exact a rfl rfl rfl rfl
 split
 .exact ⟨(Eo h arg).1,by rw [(Eo h arg).2];exact QR _⟩
 split
 .exact ⟨(Fl h arg).1,by rw [(Fl h arg).2];exact QR _⟩
 split
 .exact ⟨(FF f h arg).1,by rw [(FF f h arg).2];exact QR _⟩
 exact a rfl rfl rfl rfl
theorem JZ(b:dk c=YT)(a:all.length<=1048576):(hY c T all r).1.length<=1048576:=by
 have d:=gH b;unfold hY
 split
 .exact a
 split
 .exact a
 split
 .exact a
 rename_i e
 rw [RI];have:=wq (bT (uC T all r));omega
theorem MN(b:dk c=YT)(h:RB r)(a:all.length<=1048576)(s:QF):RB (cV c T all r s).1/\jq (cV c T all r s).1.lines<=jq r.lines+(s.length+2)/\(cV c T all r s).2.1.length<=1048576:=by
 unfold cV
 split
 .split
  .exact ⟨⟨h.addr,h.xk,h.xd,h.each⟩,Wl _ _,JZ b a⟩
  refine ⟨⟨h.addr,h.xk,h.xd,h.each⟩,?_,a⟩;simp only;rw [tn];have:=qH s;omega
 split
 .exact ⟨h,Wl _ _,a⟩
 obtain ⟨d,e⟩:=ED b h (Lib.toUpperA (aJ 32 s).1) (aJ 32 s).2.1 (aJ 32 s).2.2;exact ⟨d,by simp only;omega,a⟩
end
structure mo(c:bF)(V:Nat)(l:List (Option gz))(lr:List ix):Prop where
 len:l.length=lr.length
 one:∀(n:Nat) (x:ix),lr[n]? =some x->(x.r.closed=YT/\l[n]? =some N)\/(x.r.closed=F/\∃y,l[n]? =some (some y)/\lX c y.s x.r/\y.s.wait=fF x.r.came/\wW x.r.came)
 rb:∀(n:Nat) (x:ix),lr[n]? =some x->RB x.r/\jq x.r.lines+x.r.came.length<=V
structure Ej(V:Nat)(w:QI)(own Ep Ed:Nat->Prop)(pp pb mb p:Nat)(c:bF)(q:Nat->Nat)(vr:QJ)(S:aa)(xb:QF)(vs:QJ)(l:List (Option gz))(T:Nat)(vC vDu vFa vH:QJ)(lr:List ix)(due xh:List Nat):Prop where
 post:eh Ep pp pb mb c w q vr S xb vs l
 doc:dP Ed w p c xb T vC vDu vFa vH lr due xh
 ks:KS S T xb
 ok:S.Ok
 xU:mo c V l lr
 dl:due.length=(bn xb).1.items.length
 fl:xh.length=due.length
 m1:∀k,Ep k->mM k\/own k
 m2:∀k,ie w pb mb q vr S vs l k->own k
 m3:∀k,Ed k->own k
 m4:∀k,fo p vC vDu vFa lr k->own k
 lt:∀k,own k->k < w.heap.size
 ng:∀k,own k->¬mM k
 ap:∀k,(Ep k\/ie w pb mb q vr S vs l k)->¬(Ed k\/fo p vC vDu vFa lr k)
def fB(V:Nat)(w:QI)(vx vw:QJ)(own:Nat->Prop):Prop:=
 (vx=YV N/\vw=YV N/\∀k,¬own k)\/∃Ep Ed pp pb mb p c q vr S xb vs l T vC vDu vFa vH lr due xh,vx=YV (some ⟨pp,0,N⟩)/\vw=YV (some ⟨p,0,N⟩)/\Ej V w own Ep Ed pp pb mb p c q vr S xb vs l T vC vDu vFa vH lr due xh
section
variable {V V':Nat} {w w' w1 w2:QI} {own B Ep Ed:Nat->Prop} {pp pb mb p:Nat} {c:bF} {q q':Nat->Nat} {vr vr':QJ} {S S':aa} {xb recs':QF} {vs vs':QJ} {l l':List (Option gz)} {T:Nat} {vC vDu vFa vH vC' vDu' vFa':QJ} {lr lr':List ix} {due xh due' fails':List Nat} {vx vw:QJ}
theorem mo.mono(h:mo c V l lr)(b:V<=V'):mo c V' l lr:=⟨h.len,h.one,λn x a=>⟨(h.rb n x a).1,Rn (h.rb n x a).2 b⟩⟩
theorem Ej.mono(h:Ej V w own Ep Ed pp pb mb p c q vr S xb vs l T vC vDu vFa vH lr due xh)(a:V<=V'):Ej V' w own Ep Ed pp pb mb p c q vr S xb vs l T vC vDu vFa vH lr due xh:=⟨h.post,h.doc,h.ks,h.ok,h.xU.mono a,h.dl,h.fl,h.m1,h.m2,h.m3,h.m4,h.lt,h.ng,h.ap⟩
theorem Ej.may(h:Ej V w own Ep Ed pp pb mb p c q vr S xb vs l T vC vDu vFa vH lr due xh):dk c=YT:=h.doc.may
theorem Ej.xt(h:Ej V w own Ep Ed pp pb mb p c q vr S xb vs l T vC vDu vFa vH lr due xh)(b:aC B w w')(a:∀k,own k->¬B k)(g:∀k,mM k->¬B k):Ej V w' own Ep Ed pp pb mb p c q vr S xb vs l T vC vDu vFa vH lr due xh:=by
 obtain ⟨i,d⟩:=h.post.xt b (λk e=>(h.m1 k e).elim (g k) (a k)) (λk e=>a k (h.m2 k e));have f:=h.doc.xt b (λk e=>a k (h.m3 k e)) (λk e=>a k (h.m4 k e));exact ⟨i,f,h.ks,h.ok,h.xU,h.dl,h.fl,h.m1,λk e=>h.m2 k (d k e),h.m3,h.m4,λk e=>Nat.lt_of_lt_of_le (h.lt k e) b.size,h.ng,λk e=>h.ap k (e.imp id (d k))⟩
theorem fB.mono(h:fB V w vx vw own)(d:V<=V'):fB V' w vx vw own:=by
 rcases h with h | ⟨Ep,Ed,pp,pb,mb,p,c,q,vr,S,xb,vs,l,T,vC,vDu,vFa,vH,lr,due,xh,a,b,h⟩
 .exact Y4 h
 exact Y5 ⟨Ep,Ed,pp,pb,mb,p,c,q,vr,S,xb,vs,l,T,vC,vDu,vFa,vH,lr,due,xh,a,b,h.mono d⟩
theorem fB.xt(h:fB V w vx vw own)(f:aC B w w')(e:∀k,own k->¬B k)(d:∀k,mM k->¬B k):fB V w' vx vw own:=by
 rcases h with h | ⟨Ep,Ed,pp,pb,mb,p,c,q,vr,S,xb,vs,l,T,vC,vDu,vFa,vH,lr,due,xh,a,b,h⟩
 .exact Y4 h
 exact Y5 ⟨Ep,Ed,pp,pb,mb,p,c,q,vr,S,xb,vs,l,T,vC,vDu,vFa,vH,lr,due,xh,a,b,h.xt f e d⟩
theorem fB.below(h:fB V w vx vw own)(a:Below w.heap.size w w'):fB V w' vx vw own:=h.xt (aC.below a:aC (λ_=>False) w w') (λ_ _ e=>e) (λ_ _ e=>e)
theorem fB.lt(h:fB V w vx vw own):∀k,own k->k < w.heap.size:=by
 rcases h with ⟨_,_,h⟩ | ⟨Ep,Ed,pp,pb,mb,p,c,q,vr,S,xb,vs,l,T,vC,vDu,vFa,vH,lr,due,xh,a,b,h⟩
 .exact λk e=>(h k e).elim
 exact h.lt
theorem fB.ptr(h:fB V w vx vw own):∃x y,vx=YV x/\vw=YV y:=by
 rcases h with ⟨a,b,_⟩ | ⟨Ep,Ed,pp,pb,mb,p,c,q,vr,S,xb,vs,l,T,vC,vDu,vFa,vH,lr,due,xh,d,e,h⟩
 .exact ⟨_,_,a,b⟩
 exact ⟨_,_,d,e⟩
theorem Ej.zb(h:Ej V w own Ep Ed pp pb mb p c q vr S xb vs l T vC vDu vFa vH lr due xh):fB V w (YV (some ⟨pp,0,N⟩)) (YV (some ⟨p,0,N⟩)) own:=Y5 ⟨Ep,Ed,pp,pb,mb,p,c,q,vr,S,xb,vs,l,T,vC,vDu,vFa,vH,lr,due,xh,rfl,rfl,h⟩
theorem Ej.half(h:Ej V w own Ep Ed pp pb mb p c q vr S xb vs l T vC vDu vFa vH lr due xh)(b:aC (λk=>k=pp\/ie w pb mb q vr S vs l k) w w1):dP Ed w1 p c xb T vC vDu vFa vH lr due xh:=by
 have a:Ep pp:=h.post.post.xI;refine h.doc.xt b (λk e y=>?_) (λk e y=>?_)
 .rcases y with y | y
  .exact h.ap k (Y4 (by rw [y];exact a)) (Y4 e)
  exact h.ap k (Y5 y) (Y4 e)
 rcases y with y | y
 .exact h.ap k (Y4 (by rw [y];exact a)) (Y5 e)
 exact h.ap k (Y5 y) (Y5 e)
theorem Ej.both(h:Ej V w own Ep Ed pp pb mb p c q vr S xb vs l T vC vDu vFa vH lr due xh)(z:eh Ep pp pb mb c w1 q' vr' S' recs' vs' l')(t:∀k,ie w1 pb mb q' vr' S' vs' l' k->ie w pb mb q vr S vs l k\/w.heap.size<=k)(u:aC (λk=>k=pp\/ie w pb mb q vr S vs l k) w w1)
  (x:dP Ed w2 p c recs' T vC' vDu' vFa' vH lr' due' fails') (f:∀k,fo p vC' vDu' vFa' lr' k->fo p vC vDu vFa lr k\/w1.heap.size<=k) (g:aC (fo p vC vDu vFa lr) w1 w2) (n:KS S' T recs') (o:S'.Ok) (d:mo c V' l' lr') (j:due'.length=(bn recs').1.items.length) (m:fails'.length=due'.length):
  fB V' w2 (YV (some ⟨pp,0,N⟩)) (YV (some ⟨p,0,N⟩)) (λk=>own k\/(w.heap.size<=k/\k < w2.heap.size))/\aC own w w2:=by
 have G:Ep pp:=h.post.post.xI;have P:=u.size;have Q:=g.size;have r:own pp:=(h.m1 pp G).elim (λe=>(h.post.post.yx e).elim) id;have s:∀k,ie w pb mb q vr S vs l k->k < w.heap.size:=λk e=>h.lt k (h.m2 k e);have D:∀k,fo p vC vDu vFa lr k->k < w.heap.size:=λk e=>h.lt k (h.m4 k e);have i:∀k,Ep k->k < w.heap.size:=h.post.post.lt;have b:∀k,Ed k->k < w.heap.size:=h.doc.lt
 obtain ⟨A,C⟩:=z.xt g (λk e y=>h.ap k (Y4 e) (Y5 y)) (λk e y=>by
  rcases t k e with e | e
  .exact h.ap k (Y5 e) (Y5 y)
  have:=D k y;omega)
 have E:∀k,mM k->k < w.heap.size:=λk e=>h.post.post.yf.lt e;refine ⟨Ej.zb ⟨A,x,n,o,d,j,m,λk e=>(h.m1 k e).imp id Y4,λk e=>?_,λk e=>Y4 (h.m3 k e),λk e=>?_,λk e=>?_,λk e y=>?_,λk e y=>?_⟩,(u.mono (λk _ e=>e.elim (λe=>by rw [e];exact r) (h.m2 k))).trans g (λk M e=>h.m4 k e)⟩
 .rcases t k (C k e) with a | a
  .exact Y4 (h.m2 k a)
  exact Y5 ⟨a,A.ya e⟩
 .rcases f k e with a | a
  .exact Y4 (h.m4 k a)
  exact Y5 ⟨by omega,x.yW e⟩
 .rcases e with e | e
  .have:=h.lt k e;omega
  exact e.2
 .rcases e with e | e
  .exact h.ng k e y
  have:=E k y;omega
 rcases e with e | e
 .rcases y with y | y
  .exact h.ap k (Y4 e) (Y4 y)
  rcases f k y with y | y
  .exact h.ap k (Y4 e) (Y5 y)
  have:=i k e;omega
 have v:=C k e;have O:=z.ya v
 rcases t k v with a | a
 .rcases y with y | y
  .exact h.ap k (Y5 a) (Y4 y)
  rcases f k y with y | y
  .exact h.ap k (Y5 a) (Y5 y)
  have:=s k a;omega
 rcases y with y | y
 .have:=b k y;omega
 rcases f k y with y | y
 .have:=D k y;omega
 omega
end
theorem Kv{c:bF}{s:cj}{S:aa}{xb:QF}(h:iG c s S xb)(f:S.Ok)(a:QF)(d:Bool):(bH c s S xb a d).2.1.Ok:=by
 cases j:s.tx with
 | none=>
  have e:bH c s S xb a d=((cf c s (di a d)).1,S,xb,(cf c s (di a d)).2):=by unfold bH;rw [j]
  rw [e];exact f
 | some t=>
  cases i:t.body with
  | none=>
   have e:bH c s S xb a d=((cf c s (di a d)).1,S,xb,(cf c s (di a d)).2):=by unfold bH;rw [j];simp only;rw [i]
   rw [e];exact f
  | some b=>
   have e:bH c s S xb a d=fc c s S xb t b a d:=by unfold bH;rw [j];simp only;rw [i]
   rw [e];obtain ⟨g,_⟩:=h.tx t j;unfold fc
   split
   .unfold rh
    split
    .exact f
    split
    .exact f
    split
    .exact f.plus rfl (va h.xo g i) (g.body b i).1 g.most
    exact f
   exact f
theorem E2{c:bF}(a:dk c=YT):∀(l:QF) (x:cj×aa×QF×QF),iG c x.1 x.2.1 x.2.2.1->x.2.1.Ok->(dx c x l).2.1.Ok
 | [],_,_,h=>h
 | b::l,x,hi,ho=>by
  refine E2 a l (ia c x b) (Co a hi b).1 ?_;unfold ia
  split
  .exact ho
  have d:=sc x.1.wait b
  rcases hx:lW x.1.wait b with ⟨e,o⟩;rw [hx] at d
  cases o with
  | none=>exact ho
  | some y=>exact Kv (s:={x.1 with wait:=e}) ⟨hi.tx,hi.time,hi.len,hi.xb,d.1⟩ ho y.1 y.2
theorem dP.has{E:Nat->Prop}{w:QI}{p:Nat}{c:bF}{b:QF}{a:Nat}{j e f k:QJ}{l:List ix}{d m:List Nat}(h:dP E w p c b a j e f k l d m):mq w p b:=by
 obtain ⟨A,g,_,i,_⟩:=h.post;exact ⟨A,g,i⟩
def pJ(L:Nat->Prop)(bb B:Nat)(w:QI)(e:Ending)(w':QI):Prop:=e= .returned (.bool YT)/\su (λk=>(L k\/w.heap.size<=k)/\k < w'.heap.size) w' bb (B+2097152)/\aC L w w'
theorem pJ.still{a:Nat->Prop}{g B:Nat}{w c h:QI}(i:su a c g B)(f:∀k,a k->k < w.heap.size)(d:Below w.heap.size w c)(b:Below c.heap.size c h):pJ a g B w (.returned (.bool YT)) h:=
 ⟨rfl,(i.xo b).mono (λk e=>⟨Y4 e,by have:=f k e;have:=d.size;have:=b.size;omega⟩) (by omega),aC.below (d.trans (b.mono d.size))⟩
theorem pJ.made{a:Nat->Prop}{g B:Nat}{w b i d:QI}(c:Below w.heap.size w b)(f:Below b.heap.size b i)(h:su (λk=>(a k\/b.heap.size<=k)/\k < d.heap.size) d g (B+2097152))(j:aC (λk=>a k\/b.heap.size<=k) i d):pJ a g B w (.returned (.bool YT)) d:=
 ⟨rfl,h.mono (λk e=>⟨e.1.imp id (Rn c.size),e.2⟩) (QR _),(aC.below (c.trans (f.mono c.size))).trans j (λk h e=>e.elim id (λe=>by have:=c.size;omega))⟩
theorem OT(V:Nat)(own d:Nat->Prop)(bb B:Nat)(vx vw:QJ)(i p n:Int)(xy:Bool)(f:QF)(c:bF)(vD vN vU vW:QJ)(w:QI)(h:fB V w vx vw own)(hk:su d w bb B)(a6:∀k,d k->k < w.heap.size)(hB:B<=274877906944):Calls prog 13 #[.agg #[vx,vw],YV (S ⟨bb,0,N⟩),.agg (aP i p n xy f c vD vN vU vW)] w (pJ d bb B w):=by
 obtain ⟨P,u⟩:=QE ((w.alloc (.cells #[vx,vw] 52)).alloc (.cells (aP i p n xy f c vD vN vU vW) 49));have B0:Below w.heap.size w P:=by rw [<-u];exact ((Below.refl _ _).alloc (QR _) _).alloc (by simp) _
 have X0:P.heap[w.heap.size]? =S (.cells #[vx,vw] 52 (0,0)):=by rw [<-u];exact ae ((Below.refl _ _).alloc (QR _) _) (heap_alloc_new w _)
 have Y0:P.heap[w.heap.size+1]? =S (.cells (aP i p n xy f c vD vN vU vW) 49 (0,0)):=by
  rw [<-u];have:=heap_alloc_new (w.alloc (.cells #[vx,vw] 52)) (.cells (aP i p n xy f c vD vN vU vW) 49);simpa using this
 obtain ⟨a0,a1⟩:=QM X0;have o0:P.cell? ⟨w.heap.size+1,0,N⟩=S (.int .i64 i):=Q3 Y0 _;have a4:=K (h.below B0);have A:=K (hk.xo B0);have z:=K B0;have c3:=K X0;have D:=K u;have a8:w.heap.size < P.heap.size:=aq X0;have b3:=K a8;clear h hk B0 X0 Y0 u a8
 by_cases U:i=3
 .subst U;go_enter func13,ntmps13;simp only [aP];simp only [aP] at D;go_wp2_with fail
  rw [D.out]
  rcases a4.out with ⟨rfl,rfl,_⟩ | ⟨Ep,Ed,pp,pb,mb,q,c',qq,vr,S',xb,vs,ls,g,vC,c0,c1,vH,lr,b5,xh,rfl,rfl,l⟩
  .refine (Dy _).mono ?_;rintro e w1 ⟨rfl,rfl⟩;go_wp2_with fail
   refine (nZ _).mono ?_;rintro e Z ⟨rfl,j⟩;have t1:((bs []).toList == (bs []).toList)=YT:=by simp
   go_wp2_with fail
   go_ret;exact pJ.still A.out a6 z.out j
  have O:=K l;clear l;refine (MH O.out.post.post).mono ?_;rintro e w1 ⟨rfl,rfl⟩;go_wp2_with fail
  refine (nY q _ _ O.out.doc.has).mono ?_;rintro e Z ⟨rfl,j⟩;obtain ⟨b,eK⟩:=QE xb;rw [eK];have t1:((bs b).toList == (bs b).toList)=YT:=by simp
  go_wp2_with fail
  go_ret;exact pJ.still A.out a6 z.out j
 have c6:(i == 3)=F:=by rw [beq_eq_false_iff_ne];exact U
 clear U;go_enter func13,ntmps13;simp only [aP];simp only [aP] at D;go_wp2_with fail
 rw [D.out]
 rcases a4.out with ⟨rfl,rfl,_⟩ | ⟨Ep,Ed,pp,pb,mb,q,c',qq,vr,S',xb,vs,ls,g,vC,c0,c1,vH,lr,b5,xh,rfl,rfl,l⟩
 .refine (AN _).mono ?_;rintro e w1 ⟨rfl,rfl⟩;go_wp2_with fail
  refine (ta _).mono ?_;rintro e Z ⟨rfl,j⟩;have v:∀W:QI,fW W (L N 0 0) []:=λW=>⟨[],rfl,bq (World.ownsRow_nil W 0 91 5),λx hx=>by simp at hx⟩
  have HN:=K v;have s:=K j;clear v j;go_wp2_with fail
  refine (mU [] _ _ Z (HN.out Z) (HN.out Z) ⟨by simp,λm hm=>by simp at hm⟩).mono ?_;rintro e w3 ⟨rfl,o⟩;have t:=K (s.out.trans (o.mono s.out.size));clear o;go_wp2_with fail
  refine (qR d bb B P w3 (L N 0 0) [] A.out t.out ⟨World.ownsRow_nil _ _ _ _,λx hx=>by simp at hx,by simp⟩ (by simp) (λr hr=>by simp at hr) hB).mono ?_;rintro e w4 ⟨rfl,R,Y⟩;go_wp2_with fail
  go_ret;exact pJ.made z.out t.out R Y
 have a7:=Lj l.ok;have O:=K l;have C:=K a7;have c5:=l.post.xo;have b6:=kr xb;have c4:S'.items.length<=131072:=by rw [l.ks.items];omega
 clear l a7 b6;refine (Lk O.out.post.post O.out.ok (by omega)).mono ?_;rintro e w1 ⟨v1,y,rfl,X,a5,Q⟩;have b1:w1.cell? ⟨w.heap.size,1,N⟩=S (YV (S ⟨q,0,N⟩)):=(Q.cell (by exact b3.out)).trans a1;obtain ⟨ar,nr,cr,er⟩:=fu X.row;subst er;have b0:=K X;have M:=K a5;have G:=K Q;clear X a5 Q;go_wp2_with fail
 refine (sZ q _ w1 (O.out.doc.has.below G.out) (by omega)).mono ?_;rintro e Z ⟨v2,rfl,E,j⟩;rw [<-O.out.ks.items] at E;obtain ⟨a2,n2,c2,e2⟩:∃a n c,v2=L a n c:=by obtain ⟨l',_,hr,_⟩:=E;obtain ⟨a,c,e,_⟩:=hr.shape;exact ⟨_,_,_,e⟩
 subst e2;have a9:=K E;have a3:=K (b0.out.xo j);have s:=K (G.out.trans (j.mono G.out.size));clear E j;go_wp2_with fail
 refine (mU (iM S'.items) _ _ Z (by rw [<-M.out];exact a3.out.at) a9.out ⟨by have:=C.out.1;omega,λm hm=>(C.out.2 m hm).2⟩).mono ?_;rintro e w3 ⟨rfl,o⟩;have b2:=K (a3.out.xo o);have t:=K (s.out.trans (o.mono s.out.size));have b7:y.length<=131072:=by have:=C.out.1;rw [<-M.out,List.length_map] at this;omega
 have b4:Hid (∀r∈y,1<=r.1.xd.length/\r.1.xd.length<=255):=K (λr hr=>C.out.2 r.1 (by rw [<-M.out];exact List.mem_map.2 ⟨r,hr,rfl⟩));clear o;go_wp2_with fail
 refine (qR d bb B P w3 _ y A.out t.out b2.out b7 b4.out hB).mono ?_;rintro e w4 ⟨rfl,R,Y⟩;go_wp2_with fail
 go_ret;exact pJ.made z.out t.out R Y
end Go.Proofs.YtponhohdpophlaaGreatDoor
