import Derived.Test.YtponhohdpophlaaGreatDoorS02
import Derived.Test.YtponhohdpophlaaGreatDoorS03
import Derived.Test.YtponhohdpophlaaGreatDoorRows
import Derived.Test.YtponhohdpophlaaGreatDoorCards
import Derived.SevenTiedAt
namespace Go.Proofs.YtponhohdpophlaaGreatDoor
set_option maxHeartbeats 8000000
set_option maxRecDepth 1000000
open Go renaming Calls->Y8,Ending->Zb
open Go.Ending renaming returned->YX
open Go.IntKind renaming i64->J
open Go.Proofs.Tryz renaming func284->Va,ntmps284->Vb,func341->Vx,ntmps341->Vy,ntmps320->Vz,func320->Xq,prog->Ys
open Go.RowKit renaming Hid->H,intOf->Y9
open Go.RowKit.Below renaming refl->QQ
open Go.Value renaming int->I,string->T,bool->YW,tuple->YY
open _root_.Bool renaming false->F,true->YT
open _root_.Int renaming natCast_mul->TW,natCast_pow->TX,natCast_nonneg->TY
open _root_.List renaming length_append->RI,length_cons->RQ,length_nil->RR,drop_eq_nil_of_le->SR,append_nil->Sj,length_take->Sm,append_assoc->Sq,nil_append->Tk,cons_append->Tl,drop_eq_getElem_cons->US,foldl_cons->Vj
open _root_.Nat renaming le_refl->QR
open _root_.Option renaming none->N,some->S,getD_some->TZ
open _root_.Option.some renaming inj->Uc
open _root_.Or renaming inl->Y4,inr->Y5
def ph(n:Nat):UInt8:=UInt8.ofNat n
def It(k:Nat):Nat:=if k < 26 then k+65 else if k < 52 then k+71 else if k < 62 then k - 4 else if k=62 then 43 else 47
def lk(k:Nat):UInt8:=ph (It k)
def gB(c:UInt8):Option Nat:=
 if 65<=c.toNat/\c.toNat<=90 then S (c.toNat - 65) else if 97<=c.toNat/\c.toNat<=122 then S (c.toNat - 97+26) else if 48<=c.toNat/\c.toNat<=57 then S (c.toNat - 48+52) else if c.toNat=43 then S 62 else if c.toNat=47 then S 63 else N
theorem dL(n:Nat):(ph n).toNat=n % 256:=by rw [ph,UInt8.toNat_ofNat']
theorem ju(n:Nat)(c:UInt8)(h:n % 256=c.toNat):ph n=c:=UInt8.toNat_inj.1 (by rw [dL,h])
theorem OP(k:Nat):It k < 256:=by
 unfold It
 by_cases a:k < 26
 .rw [if_pos a];omega
 rw [if_neg a]
 by_cases b:k < 52
 .rw [if_pos b];omega
 rw [if_neg b]
 by_cases c:k < 62
 .rw [if_pos c];omega
 rw [if_neg c]
 by_cases d:k=62
 .rw [if_pos d];omega
 rw [if_neg d];omega
theorem wM(k:Nat)(_:k < 64):(lk k).toNat=It k:=by
 have:=OP k;rw [lk,dL];omega
theorem fG(k:Nat)(h:k < 64):gB (lk k)=S k:=by
 unfold gB;rw [wM k h];unfold It
 by_cases b:k < 26
 .rw [if_pos b,if_pos (by omega)];congr 1
 rw [if_neg b]
 by_cases c:k < 52
 .rw [if_pos c,if_neg (by omega),if_pos (by omega)];congr 1;omega
 rw [if_neg c]
 by_cases d:k < 62
 .rw [if_pos d,if_neg (by omega),if_neg (by omega),if_pos (by omega)];congr 1;omega
 rw [if_neg d]
 by_cases a:k=62
 .rw [if_pos a,if_neg (by omega),if_neg (by omega),if_neg (by omega),if_pos rfl,a]
 rw [if_neg a,if_neg (by omega),if_neg (by omega),if_neg (by omega),if_neg (by omega),if_pos rfl];congr 1;omega
theorem cR{c:UInt8}{k:Nat}(h:gB c=S k):k < 64/\lk k=c:=by
 have a:k < 64/\It k=c.toNat:=by
  unfold gB at h;unfold It
  split at h
  .have:k=c.toNat - 65:=(Uc h).symm;rw [if_pos (by omega)];omega
  split at h
  .have:k=c.toNat - 97+26:=(Uc h).symm;rw [if_neg (by omega),if_pos (by omega)];omega
  split at h
  .have:k=c.toNat - 48+52:=(Uc h).symm;rw [if_neg (by omega),if_neg (by omega),if_pos (by omega)];omega
  split at h
  .have:k=62:=(Uc h).symm;rw [if_neg (by omega),if_neg (by omega),if_neg (by omega),if_pos (by omega)];omega
  split at h
  .have:k=63:=(Uc h).symm;rw [if_neg (by omega),if_neg (by omega),if_neg (by omega),if_neg (by omega)];omega
  cases h
 refine ⟨a.1,UInt8.toNat_inj.1 ?_⟩;rw [wM k a.1,a.2]
theorem Oa:gB 61=N:=by decide
theorem JC(k:Nat)(h:k < 64):lk k≠61:=by
 intro e;have:=fG k h;rw [e,Oa] at this;cases this
def g1(a b:UInt8):Option QF:=match gB a,gB b with
 | some p,S q=>if q % 16=0 then S [ph (p * 4+q / 16)] else N
 | _,_=>N
def g2(a b c:UInt8):Option QF:=match gB a,gB b,gB c with
 | some p,S q,S r=>if r % 4=0 then S [ph (p * 4+q / 16),ph (q % 16 * 16+r / 4)] else N
 | _,_,_=>N
def g3(a b c d:UInt8):Option QF:=match gB a,gB b,gB c,gB d with
 | some p,S q,S r,S t=>S [ph (p * 4+q / 16),ph (q % 16 * 16+r / 4),ph (r % 4 * 64+t)]
 | _,_,_,_=>N
def GK(a b c d:UInt8):Option QF:=if d=61 then (if c=61 then g1 a b else g2 a b c) else g3 a b c d
def fC:QF->Option QF
 | []=>S []
 | a::b::c::d::r=>match GK a b c d with
  | none=>N
  | some g=>if g.length < 3/\r≠[] then N else match fC r with
   | none=>N
   | some y=>S (g++y)
 | _=>N
def fJ:QF->QF
 | []=>[]
 | [x]=>[lk (x.toNat / 4),lk (x.toNat % 4 * 16),61,61]
 | [x,y]=>[lk (x.toNat / 4),lk (x.toNat % 4 * 16+y.toNat / 16),lk (y.toNat % 16 * 4),61]
 | x::y::z::r=>lk (x.toNat / 4)::lk (x.toNat % 4 * 16+y.toNat / 16)::lk (y.toNat % 16 * 4+z.toNat / 64)::lk (z.toNat % 64)::fJ r
def j3(st:QF×Nat×Nat)(c:UInt8):QF×Nat×Nat:=
 match gB c with
 | none=>st
 | some k=>if 8<=st.2.2+6 then (st.1++[ph ((64 * st.2.1+k) % 65536 / 2 ^ (st.2.2+6 - 8))],(64 * st.2.1+k) % 65536,st.2.2+6 - 8) else (st.1,(64 * st.2.1+k) % 65536,st.2.2+6)
def ux(l:QF):QF×Nat×Nat:=l.foldl j3 ([],0,0)
def jG(l:QF):QF×Bool:=if fJ (ux l).1=l then ((ux l).1,YT) else ([],F)
theorem Mk:∀x:QF,fC (fJ x)=S x
 | []=>rfl
 | [x]=>by
  have a:=x.toNat_lt;simp only [fJ,fC,GK,g1,if_true];rw [fG _ (by omega),fG _ (by omega)];simp only;rw [if_pos (by omega)];simp only [List.length_singleton];rw [if_neg (by simp)];simp only [Sj];rw [ju _ x (by omega)]
 | [x,y]=>by
  have a:=x.toNat_lt;have b:=y.toNat_lt;simp only [fJ,fC,GK,g2,if_true];rw [if_neg (JC _ (by omega)),fG _ (by omega),fG _ (by omega),fG _ (by omega)];simp only;rw [if_pos (by omega)];simp only [RQ,RR];rw [if_neg (by simp)];simp only [Sj];rw [ju _ x (by omega),ju _ y (by omega)]
 | x::y::z::r=>by
  have a:=x.toNat_lt;have b:=y.toNat_lt;have c:=z.toNat_lt;simp only [fJ,fC,GK,g3];rw [if_neg (JC _ (by omega)),fG _ (by omega),fG _ (by omega),fG _ (by omega),fG _ (by omega)];simp only [RQ,RR];rw [if_neg (by simp),Mk r];simp only [Tl,Tk];rw [ju _ x (by omega),ju _ y (by omega),ju _ z (by omega)]
theorem Pt{a b:UInt8}{g:QF}(h:g1 a b=S g):fJ g=[a,b,61,61]/\g.length=1:=by
 unfold g1 at h
 split at h
 .rename_i p q e i
  split at h
  .obtain ⟨f,c⟩:=cR e;obtain ⟨j,d⟩:=cR i;have:=(Uc h).symm;subst this;refine ⟨?_,rfl⟩;simp only [fJ];rw [dL, <-c, <-d];rw [show (p * 4+q / 16) % 256 / 4=p by omega,show (p * 4+q / 16) % 256 % 4 * 16=q by omega]
  cases h
 cases h
theorem Pu{a b c:UInt8}{g:QF}(h:g2 a b c=S g):fJ g=[a,b,c,61]/\g.length=2:=by
 unfold g2 at h
 split at h
 .rename_i p q r i k m
  split at h
  .obtain ⟨j,d⟩:=cR i;obtain ⟨l,e⟩:=cR k;obtain ⟨n,f⟩:=cR m;have:=(Uc h).symm;subst this;refine ⟨?_,rfl⟩;simp only [fJ];rw [dL,dL, <-d, <-e, <-f];rw [show (p * 4+q / 16) % 256 / 4=p by omega,show (p * 4+q / 16) % 256 % 4 * 16+(q % 16 * 16+r / 4) % 256 / 16=q by omega,show (q % 16 * 16+r / 4) % 256 % 16 * 4=r by omega]
  cases h
 cases h
theorem Pv{a b c d:UInt8}{g:QF}(h:g3 a b c d=S g):(∀y,fJ (g++y)=a::b::c::d::fJ y)/\g.length=3:=by
 unfold g3 at h
 split at h
 .rename_i p q r t k m o u
  obtain ⟨l,e⟩:=cR k;obtain ⟨n,f⟩:=cR m;obtain ⟨s,i⟩:=cR o;obtain ⟨v,j⟩:=cR u;have:=(Uc h).symm;subst this;refine ⟨λy=>?_,rfl⟩;simp only [Tl,Tk,fJ];rw [dL,dL,dL, <-e, <-f, <-i, <-j];rw [show (p * 4+q / 16) % 256 / 4=p by omega,show (p * 4+q / 16) % 256 % 4 * 16+(q % 16 * 16+r / 4) % 256 / 16=q by omega,show (q % 16 * 16+r / 4) % 256 % 16 * 4+(r % 4 * 64+t) % 256 / 64=r by omega,show (r % 4 * 64+t) % 256 % 64=t by omega]
 cases h
theorem Ob:∀(s x:QF),fC s=S x->fJ x=s
 | [],x,h=>by
  have:x=[]:=by simpa [fC] using h.symm
  subst this;rfl
 | [_],x,h=>by simp [fC] at h
 | [_,_],x,h=>by simp [fC] at h
 | [_,_,_],x,h=>by simp [fC] at h
 | a::b::c::d::r,x,h=>by
  rw [fC] at h
  split at h
  .cases h
  rename_i g e
  split at h
  .cases h
  rename_i f
  split at h
  .cases h
  rename_i y m
  have o:=(Uc h).symm;subst o;unfold GK at e
  by_cases i:d=61
  .rw [if_pos i] at e
   by_cases k:c=61
   .rw [if_pos k] at e;obtain ⟨j,n⟩:=Pt e
    have l:r=[]:=by
     cases r with
     | nil=>rfl
     | cons _ _=>exact absurd ⟨by omega,by simp⟩ f
    subst l;have:y=[]:=by simpa [fC] using m.symm
    subst this;rw [Sj,j,i,k]
   rw [if_neg k] at e;obtain ⟨j,n⟩:=Pu e
   have l:r=[]:=by
    cases r with
    | nil=>rfl
    | cons _ _=>exact absurd ⟨by omega,by simp⟩ f
   subst l;have:y=[]:=by simpa [fC] using m.symm
   subst this;rw [Sj,j,i]
  rw [if_neg i] at e;rw [(Pv e).1 y,Ob r y m]
theorem I8(b:QF)(v k:Nat)(h:k < 64):j3 (b,v,0) (lk k)=(b,(64 * v+k) % 65536,6):=by
 unfold j3;rw [fG k h];rfl
theorem Ja(b:QF)(v k:Nat)(h:k < 64):j3 (b,v,6) (lk k)=(b++[ph ((64 * v+k) % 65536 / 16)],(64 * v+k) % 65536,4):=by
 unfold j3;rw [fG k h];rfl
theorem NV(b:QF)(v k:Nat)(h:k < 64):j3 (b,v,4) (lk k)=(b++[ph ((64 * v+k) % 65536 / 4)],(64 * v+k) % 65536,2):=by
 unfold j3;rw [fG k h];rfl
theorem Qa(b:QF)(v k:Nat)(h:k < 64):j3 (b,v,2) (lk k)=(b++[ph ((64 * v+k) % 65536 / 1)],(64 * v+k) % 65536,0):=by
 unfold j3;rw [fG k h];rfl
theorem zX(a:QF×Nat×Nat):j3 a 61=a:=by
 unfold j3;rw [Oa]
theorem L9:∀(x b:QF) (v:Nat),((fJ x).foldl j3 (b,v,0)).1=b++x
 | [],b,v=>by simp [fJ]
 | [x],b,v=>by
  have a:=x.toNat_lt;simp only [fJ,Vj,List.foldl_nil];rw [I8 b v (x.toNat / 4) (by omega),Ja b _ (x.toNat % 4 * 16) (by omega),zX,zX];simp only;rw [ju _ x (by omega)]
 | [x,y],b,v=>by
  have a:=x.toNat_lt;have c:=y.toNat_lt;simp only [fJ,Vj,List.foldl_nil];rw [I8 b v (x.toNat / 4) (by omega),Ja b _ (x.toNat % 4 * 16+y.toNat / 16) (by omega),NV _ _ (y.toNat % 16 * 4) (by omega),zX];simp only;rw [ju _ x (by omega),ju _ y (by omega)];simp
 | x::y::z::r,b,v=>by
  have a:=x.toNat_lt;have c:=y.toNat_lt;have d:=z.toNat_lt;simp only [fJ,Vj];rw [I8 b v (x.toNat / 4) (by omega),Ja b _ (x.toNat % 4 * 16+y.toNat / 16) (by omega),NV _ _ (y.toNat % 16 * 4+z.toNat / 64) (by omega),Qa _ _ (z.toNat % 64) (by omega)];rw [ju _ x (by omega),ju _ y (by omega),ju _ z (by omega)];rw [L9 r];simp
theorem NB(s:QF):jG s=match fC s with | some x=>(x,YT) | none=>([],F):=by
 unfold jG
 cases h:fC s
 case some x=>
  have e:=Ob s x h
  have a:(ux s).1=x:=by
   rw [ux, <-e,L9 x [] 0];rfl
  rw [a,if_pos e]
 rw [if_neg];intro e;have:=Mk (ux s).1;rw [e,h] at this;cases this
open Go.Proofs.Tryz
open Go.RowKit
def jN(b:UInt8)(w:QI)(e:Zb)(w':QI):Prop:=e=YX (YY #[I .u32 (((gB b).getD 0:Nat):Int),YW (gB b).isSome])/\w'=w
theorem jN.some{b:UInt8}{w:QI}{e:Zb}{a:QI}(k:Nat)(n:Int)(d:(k:Int)=n)(h:gB b=Option.some k)(c:e=YX (YY #[I .u32 n,YW YT]))(f:a=w):jN b w e a:=⟨by rw [c,h, <-d];rfl,f⟩
theorem jN.none{b:UInt8}{w:QI}{e:Zb}{a:QI}(h:gB b=Option.none)(c:e=YX (YY #[I .u32 0,YW F]))(d:a=w):jN b w e a:=⟨by rw [c,h];rfl,d⟩
theorem uI(b:UInt8)(w:QI):Y8 Ys 341 #[I .u8 (b.toNat:Int)] w (jN b w):=by
 have q:(b.toNat:Int) < 256:=by have:=b.toNat_lt;omega
 have t:0<=(b.toNat:Int):=by omega
 by_cases e:65<=(b.toNat:Int)/\(b.toNat:Int)<=90
 .have a:H (gB b=S (b.toNat - 65)):=by
   show _=_;unfold gB;rw [if_pos (by omega)]
  obtain ⟨g,m⟩:=e;go_enter func341,ntmps341;go_wp2
  go_ret2
  exact jN.some _ _ (by omega) a.out rfl rfl
 by_cases f:97<=(b.toNat:Int)/\(b.toNat:Int)<=122
 .have a:H (gB b=S (b.toNat - 97+26)):=by
   show _=_;unfold gB;rw [if_neg (by omega),if_pos (by omega)]
  obtain ⟨g,m⟩:=f;clear e;have p:90 < (b.toNat:Int):=by omega
  go_enter func341,ntmps341;go_wp2
  go_ret2
  exact jN.some _ _ (by omega) a.out rfl rfl
 by_cases h:48<=(b.toNat:Int)/\(b.toNat:Int)<=57
 .have a:H (gB b=S (b.toNat - 48+52)):=by
   show _=_;unfold gB;rw [if_neg (by omega),if_neg (by omega),if_pos (by omega)]
  obtain ⟨g,m⟩:=h;clear e f;have p:(b.toNat:Int) < 65:=by omega
  go_enter func341,ntmps341;go_wp2
  go_ret2
  exact jN.some _ _ (by omega) a.out rfl rfl
 have i:(decide (65<=(b.toNat:Int)) && decide ((b.toNat:Int)<=90))=F:=by simp;omega
 have j:(decide (97<=(b.toNat:Int)) && decide ((b.toNat:Int)<=122))=F:=by simp;omega
 have k:(decide (48<=(b.toNat:Int)) && decide ((b.toNat:Int)<=57))=F:=by simp;omega
 cases n:((b.toNat:Int) == 43)
 case true=>
  have c:(b.toNat:Int)=43:=by simpa using n
  have a:H (gB b=S 62):=by
   show _=_;unfold gB;rw [if_neg (by omega),if_neg (by omega),if_neg (by omega),if_pos (by omega)]
  clear e f h i j k;have g:(b.toNat:Int) < 48:=by omega
  clear c;go_enter func341,ntmps341;go_wp2
  all_goals (go_ret2;exact jN.some _ _ rfl a.out rfl rfl)
 cases o:((b.toNat:Int) == 47)
 case true=>
  have d:(b.toNat:Int)=47:=by simpa using o
  have a:H (gB b=S 63):=by
   show _=_;unfold gB;rw [if_neg (by omega),if_neg (by omega),if_neg (by omega),if_neg (by omega),if_pos (by omega)]
  clear e f h i j k;have g:(b.toNat:Int) < 48:=by omega
  clear d;go_enter func341,ntmps341;go_wp2
  all_goals (go_ret2;exact jN.some _ _ rfl a.out rfl rfl)
 have c:¬(b.toNat:Int)=43:=by simpa using n
 have d:¬(b.toNat:Int)=47:=by simpa using o
 have a:H (gB b=N):=by
  show _=_;unfold gB;rw [if_neg (by omega),if_neg (by omega),if_neg (by omega),if_neg (by omega),if_neg (by omega)]
 have r:(b.toNat:Int) < 48\/(57 < (b.toNat:Int)/\(b.toNat:Int) < 65)\/(90 < (b.toNat:Int)/\(b.toNat:Int) < 97)\/122 < (b.toNat:Int):=by omega
 clear e f h c d i j k
 rcases r with l | ⟨l,s⟩ | ⟨l,s⟩ | l
 all_goals
  go_enter func341,ntmps341;go_wp2
  go_ret2
  exact jN.none a.out rfl rfl
def stood(l:QF):Nat:=if Lib.hasSuffix l [61,61] then 1 else if Lib.hasSuffix l [61] then 2 else 3
theorem gF(s:QL)(w:QI)(f:s.size<=maxLen):Y8 Ys 320 #[T s] w λe b=>e=YX (I J (stood s.data.toList:Nat))/\b=w:=by
 have c:H (∀n:Nat,stood s.data.toList=n->∀i:Int,(n:Int)=i->YX (I J i)=YX (I J (stood s.data.toList:Nat))):=λn h i j=>by rw [h,j]
 cases d:Lib.hasSuffix s.data.toList [61,61]
 case true=>
  have a:H (stood s.data.toList=1):=by show _=_;unfold stood;rw [d];rfl
  go_enter Xq,ntmps320;go_wp2_with (go_at_call 212;refine (Tryz.strings_HasSuffix _ _ _ f).mono ?_;rintro e b ⟨rfl,rfl⟩)
  go_ret;exact ⟨c.out _ a.out _ rfl,rfl⟩
 cases g:Lib.hasSuffix s.data.toList [61]
 case true=>
  have a:H (stood s.data.toList=2):=by show _=_;unfold stood;rw [d,g];rfl
  go_enter Xq,ntmps320;go_wp2_with (go_at_call 212;refine (Tryz.strings_HasSuffix _ _ _ f).mono ?_;rintro e b ⟨rfl,rfl⟩)
  go_ret;exact ⟨c.out _ a.out _ rfl,rfl⟩
 have a:H (stood s.data.toList=3):=by show _=_;unfold stood;rw [d,g];rfl
 go_enter Xq,ntmps320;go_wp2_with (go_at_call 212;refine (Tryz.strings_HasSuffix _ _ _ f).mono ?_;rintro e b ⟨rfl,rfl⟩)
 go_ret;exact ⟨c.out _ a.out _ rfl,rfl⟩
def kZ(l:QF):Nat->Nat
 | 0=>0
 | k+1=>kZ l k+(gB (l.getD k 0)).getD 0 * 2 ^ (18 - 6 * k)
theorem D4(c:UInt8):(gB c).getD 0 < 64:=by
 cases h:gB c with
 | none=>decide
 | some k=>exact (cR h).1
theorem GJ(l:QF)(k:Nat)(h:k<=4):∃m,kZ l k=m * 2 ^ (24 - 6 * k)/\kZ l k < 16777216:=by
 have b:=D4 (l.getD 0 0);have c:=D4 (l.getD 1 0);have d:=D4 (l.getD 2 0);have e:=D4 (l.getD 3 0);have a:k=0\/k=1\/k=2\/k=3\/k=4:=by omega
 rcases a with rfl | rfl | rfl | rfl | rfl
 .exact ⟨0,by simp [kZ],by simp [kZ]⟩
 .refine ⟨(gB (l.getD 0 0)).getD 0,?_,?_⟩ <;> simp only [kZ] <;> omega
 .refine ⟨(gB (l.getD 0 0)).getD 0 * 64+(gB (l.getD 1 0)).getD 0,?_,?_⟩ <;> simp only [kZ] <;> omega
 .refine ⟨((gB (l.getD 0 0)).getD 0 * 64+(gB (l.getD 1 0)).getD 0) * 64+(gB (l.getD 2 0)).getD 0,?_,?_⟩ <;> simp only [kZ] <;> omega
 refine ⟨kZ l 4,by omega,?_⟩
 simp only [kZ];omega
theorem P4(m q k:Nat)(b:q < 64)(f:k<=3)(d:m * 2 ^ (24 - 6 * k) < 16777216):bits BinOp.or IntKind.u32 ((m * 2 ^ (24 - 6 * k):Nat):Int) ((q:Int) * 2 ^ (18 - 6 * k) % 4294967296)=((m * 2 ^ (24 - 6 * k)+q * 2 ^ (18 - 6 * k):Nat):Int):=by
 have a:q * 2 ^ (18 - 6 * k) < 2 ^ (24 - 6 * k):=by
  rw [show 24 - 6 * k=6+(18 - 6 * k) by omega,Nat.pow_add]
  exact Nat.mul_lt_mul_of_pos_right b (Nat.pow_pos (by decide))
 have c:q * 2 ^ (18 - 6 * k) < 16777216:=by
  refine Nat.lt_of_lt_of_le a ?_;have:(16777216:Nat)=2 ^ 24:=rfl;rw [this];exact Nat.pow_le_pow_right (by decide) (by omega)
 have e:((q:Int) * 2 ^ (18 - 6 * k) % 4294967296)=((q * 2 ^ (18 - 6 * k):Nat):Int):=by
  rw [TW,TX];refine Int.emod_eq_of_lt ?_ ?_
  .have:(0:Int)<=((q * 2 ^ (18 - 6 * k):Nat):Int):=TY _;rw [TW,TX] at this;exact this
  have:((q * 2 ^ (18 - 6 * k):Nat):Int) < 4294967296:=by omega
  rw [TW,TX] at this;exact this
 rw [e,u32_or_nat _ _ (by omega) (by omega)]
 congr 1
 rw [<-Nat.shiftLeft_eq m,Nat.shiftLeft_add_eq_or_of_lt a]
def lF(l:QF)(w:QI)(e:Zb)(w':QI):Prop:=
 (if l.all (λc=>(gB c).isSome) then e=YX (YY #[I .u32 (kZ l l.length:Nat),YW YT]) else e=YX (YY #[I .u32 0,YW F]))/\w'=w
theorem lF.yes{l:QF}{w:QI}{e:Zb}{a:QI}(h:l.all (λc=>(gB c).isSome)=YT)(b:e=YX (YY #[I .u32 (kZ l l.length:Nat),YW YT]))(d:a=w):lF l w e a:=⟨by rw [h];exact b,d⟩
theorem lF.no{l:QF}{w:QI}{e:Zb}{a:QI}(h:l.all (λc=>(gB c).isSome)=F)(b:e=YX (YY #[I .u32 0,YW F]))(d:a=w):lF l w e a:=⟨by rw [h];exact b,d⟩
theorem nX(s:QL)(w:QI)(B:s.size<=4):Y8 Ys 321 #[T s] w (lF s.data.toList w):=by
 go_enter func321,ntmps321;go_wp2
 go_loop [4,10] (λv i=>∃k V:Nat,k<=s.size/\i=I J k/\v=I .u32 V/\H (kZ s.data.toList k=V)/\H (∀j:Nat,j < k->(gB (s.data.toList.getD j 0)).isSome=YT)) (λ_ i=>s.size - (Y9 i).toNat)
 case atStart=>exact ⟨0,0,Nat.zero_le _,rfl,rfl,rfl,λj r=>by omega⟩
 case round=>
  obtain ⟨k,V,z,rfl,rfl,f,l⟩:=hrel
  by_cases d:k < s.size
  .have g:H (s.data.toList.getD k 0=s[k]):=iZ s k d;obtain ⟨o,t⟩:=QE (gB s[k]);have a:=K t;clear t
   have u:(V:Int) < 16777216:=by
    obtain ⟨_,_,h⟩:=GJ s.data.toList k (by omega);rw [f.out] at h;omega
   have y:(k:Int)<=3:=by omega
   go_wp2_with fail
   refine (uI _ _).mono ?_;rintro e C ⟨rfl,rfl⟩;rw [a.out]
   cases o with
   | none=>
    simp only [Option.getD_none,Option.isSome_none];go_wp2_with fail
    go_ret2
    exact lF.no (qg (p:=λc=>(gB c).isSome) (k:=k) (by rw [ag];exact d) (by rw [g.out,a.out];rfl)) rfl rfl
   | some q=>
    have A:(q:Int) < 64:=by have:=(cR a.out).1;omega
    simp only [TZ,Option.isSome_some];go_wp2_with fail
    refine ⟨⟨k+1,kZ s.data.toList (k+1),by omega,by go_num,?_,rfl,ma (p:=λc=>(gB c).isSome) l.out g.out (by rw [a.out];rfl)⟩,by simp [Y9];omega⟩
    obtain ⟨m,n,x⟩:=GJ s.data.toList k (by omega);rw [kZ,g.out,a.out,TZ, <-f.out,n,P4 m q k (by omega) (by omega) (by rw [<-n];exact x)]
  have b:H (k=s.data.toList.length):=by
   show _=_;rw [ag];omega
  go_wp2
  go_ret2
  exact lF.yes (vz (p:=λc=>(gB c).isSome) (λj r=>l.out j (by rw [b.out];exact r))) (by rw [<-b.out,f.out];rfl) rfl
def ee(o:Option QF)(w:QI)(e:Zb)(w':QI):Prop:=
 (match o with | some g=>e=YX (YY #[T ⟨g.toArray⟩,YW YT]) | none=>e=YX (YY #[T ⟨#[]⟩,YW F]))/\Below w.heap.size w w'
theorem ee.yes{o:Option QF}{w:QI}{e:Zb}{a:QI}(g:QF)(h:o=S g)(b:e=YX (YY #[T ⟨g.toArray⟩,YW YT]))(c:Below w.heap.size w a):ee o w e a:=by subst h;exact ⟨b,c⟩
theorem ee.no{o:Option QF}{w:QI}{e:Zb}{a:QI}(h:o=N)(b:e=YX (YY #[T ⟨#[]⟩,YW F]))(c:Below w.heap.size w a):ee o w e a:=by subst h;exact ⟨b,c⟩
theorem qF(w:QI)(W n a:Nat)(e:W < 16777216)(f:n<=3):(convert 100 9 (.slice (S ⟨w.heap.size,0,N⟩) n a)).run Ys (w.alloc (.cells #[I .u8 ((W:Int) / 65536),I .u8 ((W:Int) / 256 % 256),I .u8 ((W:Int) % 256)] 329))= .ok (T ⟨([ph (W / 65536),ph (W / 256),ph W].take n).toArray⟩) (w.alloc (.cells #[I .u8 ((W:Int) / 65536),I .u8 ((W:Int) / 256 % 256),I .u8 ((W:Int) % 256)] 329)):=by
 refine ib _ w.heap.size a n _ (by simp;omega) (λj d=>?_);have c:∀i:Nat,(w.alloc (.cells #[I .u8 ((W:Int) / 65536),I .u8 ((W:Int) / 256 % 256),I .u8 ((W:Int) % 256)] 329)).cell? ⟨w.heap.size,i,N⟩=#[I .u8 ((W:Int) / 65536),I .u8 ((W:Int) / 256 % 256),I .u8 ((W:Int) % 256)][i]? :=λi=>World.cell?_alloc_mark w _ 329 (0,0) i;rw [c j,List.getD_eq_getElem?_getD,List.getElem?_take_of_lt d];have b:j=0\/j=1\/j=2:=by omega
 rcases b with rfl | rfl | rfl
 .show S (I .u8 ((W:Int) / 65536))=S (I .u8 ((ph (W / 65536)).toNat:Int));rw [dL,show (((W / 65536) % 256:Nat):Int)=(W:Int) / 65536 by omega]
 .show S (I .u8 ((W:Int) / 256 % 256))=S (I .u8 ((ph (W / 256)).toNat:Int));rw [dL,show (((W / 256) % 256:Nat):Int)=(W:Int) / 256 % 256 by omega]
 show S (I .u8 ((W:Int) % 256))=S (I .u8 ((ph W).toNat:Int));rw [dL,show ((W % 256:Nat):Int)=(W:Int) % 256 by omega]
theorem Aj{s:QL}{w:QI}(d:s.size<=4)(W:Nat)(h:s.data.toList.all (λc=>(gB c).isSome)=YT)(b:kZ s.data.toList s.data.toList.length=W):Y8 Ys 321 #[T s] w λe f=>e=YX (YY #[I .u32 W,YW YT])/\f=w:=by
 refine (nX s w d).mono ?_;rintro e g ⟨a,rfl⟩;rw [h] at a;exact ⟨by rw [<-b];exact a,rfl⟩
theorem D7{s:QL}{w:QI}(b:s.size<=4)(h:s.data.toList.all (λc=>(gB c).isSome)=F):Y8 Ys 321 #[T s] w λe d=>e=YX (YY #[I .u32 0,YW F])/\d=w:=by
 refine (nX s w b).mono ?_;rintro e f ⟨a,rfl⟩;rw [h] at a;exact ⟨a,rfl⟩
theorem wy(s:QL)(w:QI)(d:s.size=4)(a:stood s.data.toList=1)(b:(s.extract 0 2).data.toList.all (λc=>(gB c).isSome)=F):Y8 Ys 284 #[T s] w (ee N w):=by
 have f:=K b;clear b;have h:H ((s.extract 0 2).size<=4):=by show _<=_;simp;omega
 have HT:=K a;clear a;have g:=K d;have i:(4:Int)<=(s.size:Int):=by omega
 clear d;go_enter func284,ntmps284;go_wp2_with fail
 refine (gF s _ (by unfold maxLen;have:=g.out;omega)).mono ?_;rintro e j ⟨rfl,rfl⟩;rw [HT.out];go_wp2_with fail
 refine (D7 (s:=s.extract 0 2) h.out f.out).mono ?_;rintro e k ⟨rfl,rfl⟩;go_wp2_with fail
 go_ret2
 exact ee.no rfl rfl (QQ _ _)
theorem EV(s:QL)(w:QI)(j:s.size=4)(b:stood s.data.toList=1)(g:(s.extract 0 2).data.toList.all (λc=>(gB c).isSome)=YT)(W:Nat)(k:kZ (s.extract 0 2).data.toList (s.extract 0 2).data.toList.length=W)(u:W < 16777216)(o:Option QF)(h:o=(if W / 256 % 256=0/\W % 256=0 then S [ph (W / 65536)] else N)):Y8 Ys 284 #[T s] w (ee o w):=by
 have d:=K h;have n:=K g;have q:=K k;clear g k h;have t:H ((s.extract 0 2).size<=4):=by show _<=_;simp;omega
 have f:=qF w W 1 3 u (by decide);have HT:=K b;clear b;have p:=K j;have v:(4:Int)<=(s.size:Int):=by omega
 clear j;go_enter func284,ntmps284;go_wp2_with fail
 refine (gF s _ (by unfold maxLen;have:=p.out;omega)).mono ?_;rintro e x ⟨rfl,rfl⟩;rw [HT.out];go_wp2_with fail
 refine (Aj (s:=s.extract 0 2) t.out W n.out q.out).mono ?_;rintro e y ⟨rfl,rfl⟩
 cases l:(((W:Int) / 256 % 256) != 0)
 case true=>
  have a:H (¬(W / 256 % 256=0/\W % 256=0)):=by
   show ¬_;have:¬(W:Int) / 256 % 256=0:=by simpa using l
   omega
  go_wp2_with fail
  go_loop [34] (λi=>i=I J 0) (λi=>1 - (Y9 i).toNat)
  case atStart=>rfl
  case round=>
   subst hrel;go_wp2
   go_ret2
   exact ee.no (d.out.trans (if_neg a.out)) rfl ((QQ _ _).alloc (QR _) _)
 have r:H ((W:Int) / 256 % 256=0):=by
  show (W:Int) / 256 % 256=0;simpa using l
 cases m:(((W:Int) % 256) != 0)
 case true=>
  have a:H (¬(W / 256 % 256=0/\W % 256=0)):=by
   show ¬_;have:¬(W:Int) % 256=0:=by simpa using m
   omega
  go_wp2_with fail
  go_loop [34] (λi=>i=I J 0\/i=I J 1) (λi=>2 - (Y9 i).toNat)
  case atStart=>exact Y4 rfl
  case round=>
   rcases hrel with rfl | rfl
   .go_wp2
    go_round
    case rel=>exact Y5 rfl
    case measure=>decide
   go_wp2
   go_ret2
   exact ee.no (d.out.trans (if_neg a.out)) rfl ((QQ _ _).alloc (QR _) _)
 have a:H (W / 256 % 256=0/\W % 256=0):=by
  show _/\_;have:(W:Int) % 256=0:=by simpa using m
  have:=r.out;omega
 go_wp2_with fail
 go_loop [34] (λi=>i=I J 0\/i=I J 1\/i=I J 2) (λi=>2 - (Y9 i).toNat)
 case atStart=>exact Y4 rfl
 case round=>
  rcases hrel with rfl | rfl | rfl
  .go_wp2
   go_round
   case rel=>exact Y5 (Y4 rfl)
   case measure=>decide
  .go_wp2
   go_round
   case rel=>exact Y5 (Y5 rfl)
   case measure=>decide
  go_wp2
  go_ret2
  exact ee.yes _ (d.out.trans (if_pos a.out)) rfl ((QQ _ _).alloc (QR _) _)
theorem qm(s:QL)(w:QI)(d:s.size=4)(a:stood s.data.toList=2)(b:(s.extract 0 3).data.toList.all (λc=>(gB c).isSome)=F):Y8 Ys 284 #[T s] w (ee N w):=by
 have f:=K b;clear b;have h:H ((s.extract 0 3).size<=4):=by show _<=_;simp;omega
 have HT:=K a;clear a;have g:=K d;have i:(4:Int)<=(s.size:Int):=by omega
 clear d;go_enter func284,ntmps284;go_wp2_with fail
 refine (gF s _ (by unfold maxLen;have:=g.out;omega)).mono ?_;rintro e j ⟨rfl,rfl⟩;rw [HT.out];go_wp2_with fail
 refine (D7 (s:=s.extract 0 3) h.out f.out).mono ?_;rintro e k ⟨rfl,rfl⟩;go_wp2_with fail
 go_ret2
 exact ee.no rfl rfl (QQ _ _)
theorem EW(s:QL)(w:QI)(j:s.size=4)(a:stood s.data.toList=2)(g:(s.extract 0 3).data.toList.all (λc=>(gB c).isSome)=YT)(W:Nat)(k:kZ (s.extract 0 3).data.toList (s.extract 0 3).data.toList.length=W)(r:W < 16777216)(o:Option QF)(h:o=(if W % 256=0 then S [ph (W / 65536),ph (W / 256)] else N)):Y8 Ys 284 #[T s] w (ee o w):=by
 have f:=K h;have m:=K g;have p:=K k;clear g k h;have q:H ((s.extract 0 3).size<=4):=by show _<=_;simp;omega
 have d:=qF w W 2 3 r (by decide);have HT:=K a;clear a;have n:=K j;have t:(4:Int)<=(s.size:Int):=by omega
 clear j;go_enter func284,ntmps284;go_wp2_with fail
 refine (gF s _ (by unfold maxLen;have:=n.out;omega)).mono ?_;rintro e u ⟨rfl,rfl⟩;rw [HT.out];go_wp2_with fail
 refine (Aj (s:=s.extract 0 3) q.out W m.out p.out).mono ?_;rintro e v ⟨rfl,rfl⟩
 cases l:(((W:Int) % 256) != 0)
 case true=>
  have b:H (¬W % 256=0):=by
   show ¬_;have:¬(W:Int) % 256=0:=by simpa using l
   omega
  go_wp2_with fail
  go_loop [34] (λi=>i=I J 0) (λi=>1 - (Y9 i).toNat)
  case atStart=>rfl
  case round=>
   subst hrel;go_wp2
   go_ret2
   exact ee.no (f.out.trans (if_neg b.out)) rfl ((QQ _ _).alloc (QR _) _)
 have b:H (W % 256=0):=by
  show W % 256=0;have:(W:Int) % 256=0:=by simpa using l
  omega
 go_wp2_with fail
 go_loop [34] (λi=>i=I J 0\/i=I J 1) (λi=>1 - (Y9 i).toNat)
 case atStart=>exact Y4 rfl
 case round=>
  rcases hrel with rfl | rfl
  .go_wp2
   go_round
   case rel=>exact Y5 rfl
   case measure=>decide
  go_wp2
  go_ret2
  exact ee.yes _ (f.out.trans (if_pos b.out)) rfl ((QQ _ _).alloc (QR _) _)
theorem np(s:QL)(w:QI)(d:s.size=4)(a:stood s.data.toList=3)(b:(s.extract 0 4).data.toList.all (λc=>(gB c).isSome)=F):Y8 Ys 284 #[T s] w (ee N w):=by
 have f:=K b;clear b;have h:H ((s.extract 0 4).size<=4):=by show _<=_;simp;omega
 have HT:=K a;clear a;have g:=K d;have i:(4:Int)<=(s.size:Int):=by omega
 clear d;go_enter func284,ntmps284;go_wp2_with fail
 refine (gF s _ (by unfold maxLen;have:=g.out;omega)).mono ?_;rintro e j ⟨rfl,rfl⟩;rw [HT.out];go_wp2_with fail
 refine (D7 (s:=s.extract 0 4) h.out f.out).mono ?_;rintro e k ⟨rfl,rfl⟩;go_wp2_with fail
 go_ret2
 exact ee.no rfl rfl (QQ _ _)
theorem EX(s:QL)(w:QI)(g:s.size=4)(a:stood s.data.toList=3)(d:(s.extract 0 4).data.toList.all (λc=>(gB c).isSome)=YT)(W:Nat)(h:kZ (s.extract 0 4).data.toList (s.extract 0 4).data.toList.length=W)(p:W < 16777216)(o:Option QF)(f:o=(S [ph (W / 65536),ph (W / 256),ph W])):Y8 Ys 284 #[T s] w (ee o w):=by
 have k:=K f;have j:=K d;have m:=K h;clear d h f;have n:H ((s.extract 0 4).size<=4):=by show _<=_;simp;omega
 have b:=qF w W 3 3 p (by decide);have HT:=K a;clear a;have l:=K g;have q:(4:Int)<=(s.size:Int):=by omega
 clear g;go_enter func284,ntmps284;go_wp2_with fail
 refine (gF s _ (by unfold maxLen;have:=l.out;omega)).mono ?_;rintro e r ⟨rfl,rfl⟩;rw [HT.out];go_wp2_with fail
 refine (Aj (s:=s.extract 0 4) n.out W j.out m.out).mono ?_;rintro e t ⟨rfl,rfl⟩;go_wp2_with fail
 go_loop [34] (λi=>i=I J 0) (λ_=>0)
 case atStart=>rfl
 case round=>
  subst hrel;go_wp2
  go_ret2
  exact ee.yes _ k.out rfl ((QQ _ _).alloc (QR _) _)
theorem Cy:∀(x y:QF),x.length % 3=0->fJ (x++y)=fJ x++fJ y
 | [],_,_=>rfl
 | [_],_,h=>by simp at h
 | [_,_],_,h=>by simp at h
 | a::b::c::r,y,h=>by
  have:=Cy r y (by simp at h;omega);simp only [Tl,fJ,this]
theorem Po(l:QF)(q:Nat)(a:q % 3=0)(b:q < l.length):fJ (l.take (q+3))=fJ (l.take q)++fJ ((l.drop q).take 3):=by
 rw [List.take_add,Cy _ _ (by rw [Sm,Nat.min_eq_left (by omega)];exact a)]
def rr(V n k:Nat):UInt8:=if k<=n then lk (V / 2 ^ (18 - 6 * k) % 64) else 61
def ru(V n:Nat):QF:=[rr V n 0,rr V n 1,rr V n 2,rr V n 3]
theorem mR(V n k:Nat)(a:k < 4):(ru V n).take (k+1)=(ru V n).take k++[rr V n k]:=by
 have:k=0\/k=1\/k=2\/k=3:=by omega
 rcases this with rfl | rfl | rfl | rfl <;> rfl
theorem fP{V n k A:Nat}(b:k<=n)(a:V / 2 ^ (18 - 6 * k) % 64=A):rr V n k=lk A:=by
 unfold rr;rw [if_pos b,a]
theorem oK{V n k:Nat}(a:¬k<=n):rr V n k=61:=by
 unfold rr;rw [if_neg a]
theorem GP(V k:Nat):((V:Int) / 2 ^ (18 - 6 * k)).tmod 64=((V / 2 ^ (18 - 6 * k) % 64:Nat):Int):=by
 have e:((V:Int) / 2 ^ (18 - 6 * k))=((V / 2 ^ (18 - 6 * k):Nat):Int):=by
  rw [Int.natCast_ediv,TX];rfl
 rw [e,Int.tmod_eq_emod_of_nonneg (TY _)];omega
def r9:QL:=⟨#[65,66,67,68,69,70,71,72,73,74,75,76,77,78,79,80,81,82,83,84,85,86,87,88,89,90,97,98,99,100,101,102,103,104,105,106,107,108,109,110,111,112,113,114,115,116,117,118,119,120,121,122,48,49,50,51,52,53,54,55,56,57,43,47]⟩
theorem Jc:r9.data.toList=(List.range 64).map lk:=by decide
theorem Gx(A:Nat)(h:A < 64):r9.data.toList[A]? =S (lk A):=by
 rw [Jc,List.getElem?_map,List.getElem?_range h];rfl
theorem tf(A:Nat)(h:A < 64):(r9.extract A (A+1)).data.toList=[lk A]:=by
 rw [Lib.extract_data,show A+1 - A=1 by omega,List.take_one,List.head?_drop,Gx A h];rfl
theorem Qx(x y z:UInt8):fJ [x,y,z]=ru (65536 * x.toNat+256 * y.toNat+z.toNat) 3:=by
 have a:=x.toNat_lt;have b:=y.toNat_lt;have c:=z.toNat_lt;simp only [fJ,ru];rw [fP (A:=x.toNat / 4) (by decide) (by show _ / 262144 % 64=_;omega),fP (A:=x.toNat % 4 * 16+y.toNat / 16) (by decide) (by show _ / 4096 % 64=_;omega),fP (A:=y.toNat % 16 * 4+z.toNat / 64) (by decide) (by show _ / 64 % 64=_;omega),fP (A:=z.toNat % 64) (by decide) (by show _ / 1 % 64=_;omega)]
theorem Qw(x y:UInt8):fJ [x,y]=ru (65536 * x.toNat+256 * y.toNat) 2:=by
 have a:=x.toNat_lt;have b:=y.toNat_lt;simp only [fJ,ru];rw [fP (A:=x.toNat / 4) (by decide) (by show _ / 262144 % 64=_;omega),fP (A:=x.toNat % 4 * 16+y.toNat / 16) (by decide) (by show _ / 4096 % 64=_;omega),fP (A:=y.toNat % 16 * 4) (by decide) (by show _ / 64 % 64=_;omega),oK (by decide)]
theorem Qv(x:UInt8):fJ [x]=ru (65536 * x.toNat) 1:=by
 have a:=x.toNat_lt;simp only [fJ,ru];rw [fP (A:=x.toNat / 4) (by decide) (by show _ / 262144 % 64=_;omega),fP (A:=x.toNat % 4 * 16) (by decide) (by show _ / 4096 % 64=_;omega),oK (by decide),oK (by decide)]
theorem Qm(b:QL)(q:Nat)(h:q+2 < b.size):(b.data.toList.drop q).take 3=[b[q],b[q+1],b[q+2]]:=by
 rw [US (by simp;omega),US (by simp;omega),US (by simp;omega)];rfl
theorem Ql(b:QL)(q:Nat)(h:q+1 < b.size)(a:¬q+2 < b.size):(b.data.toList.drop q).take 3=[b[q],b[q+1]]:=by
 rw [US (by simp;omega),US (by simp;omega),SR (by simp;omega)];rfl
theorem Qk(b:QL)(q:Nat)(h:q < b.size)(a:¬q+1 < b.size):(b.data.toList.drop q).take 3=[b[q]]:=by
 rw [US (by simp;omega),SR (by simp;omega)];rfl
theorem D8:∀x:QF,(fJ x).length<=4 * x.length
 | []=>by simp [fJ]
 | [_]=>by simp [fJ]
 | [_,_]=>by simp [fJ]
 | _::_::_::r=>by have:=D8 r;simp [fJ];omega
theorem oj(a c:QL):(a++c).data.toList=a.data.toList++c.data.toList:=by simp
def Qh(l:QF)(s i:QJ):Prop:=
 ∃(S:QL) (q:Nat),s=T S/\i=I J q/\q % 3=0/\q<=l.length+2/\S.data.toList=fJ (l.take q)
theorem uq(b:QL)(w:QI)(hs:b.size<=140737488355328):Y8 Ys 300 #[T b] w λe w'=>e=YX (T ⟨(fJ b.data.toList).toArray⟩)/\w'=w:=by
 go_enter func300,ntmps300;go_wp2
 go_loop [3,4] (λs i=>Qh b.data.toList s i) (λ_ i=>b.size+3 - (Y9 i).toNat)
 case atStart=>exact ⟨⟨#[]⟩,0,rfl,rfl,rfl,by omega,rfl⟩
 case round=>
  obtain ⟨a,q,rfl,rfl,G,hq,Y⟩:=hrel;rw [ag] at hq;have B:=K Y;have HQ:=K G;clear Y G
  by_cases U:q < b.size
  .have z:=K (Po b.data.toList q HQ.out (by rw [ag];exact U))
   by_cases W:q+1 < b.size
   .by_cases X:q+2 < b.size
    .have i1:(q:Int)+1 < (b.size:Int):=by omega
     have i2:(q:Int)+2 < (b.size:Int):=by omega
     have O:(b[q].toNat:Int) < 256:=by have:=b[q].toNat_lt;omega
     have Q:(b[q+1].toNat:Int) < 256:=by have:=b[q+1].toNat_lt;omega
     have t2:(b[q+2].toNat:Int) < 256:=by have:=b[q+2].toNat_lt;omega
     have u:H (fJ ((b.data.toList.drop q).take 3)=ru (65536 * b[q].toNat+256 * b[q+1].toNat+b[q+2].toNat) 3):=by
      show _=_;rw [Qm b q X,Qx]
     go_wp2
     go_loop [5,6,7] (λv n k=>(k=I J 0/\v=I J 0/\n=I J 0)\/(k=I J 1/\v=I J ((b[q].toNat:Int))/\n=I J 1)\/(k=I J 2/\v=I J (256 * (b[q].toNat:Int)+(b[q+1].toNat:Int))/\n=I J 2)\/(k=I J 3/\v=I J (256 * (256 * (b[q].toNat:Int)+(b[q+1].toNat:Int))+(b[q+2].toNat:Int))/\n=I J 3)) (λ_ _ k=>3 - (Y9 k).toNat)
     case atStart=>exact Y4 ⟨rfl,rfl,rfl⟩
     case round=>
      rcases hrel with ⟨rfl,rfl,rfl⟩ | ⟨rfl,rfl,rfl⟩ | ⟨rfl,rfl,rfl⟩ | ⟨rfl,rfl,rfl⟩
      .go_wp2
       go_round
       case rel=>exact Y5 (Y4 ⟨rfl,rfl,rfl⟩)
       case measure=>decide
      .go_wp2
       go_round
       case rel=>exact Y5 (Y5 (Y4 ⟨rfl,rfl,rfl⟩))
       case measure=>decide
      .go_wp2
       go_round
       case rel=>exact Y5 (Y5 (Y5 ⟨rfl,rfl,rfl⟩))
       case measure=>decide
      obtain ⟨V,y,d⟩:∃V:Nat,256 * (256 * (b[q].toNat:Int)+(b[q+1].toNat:Int))+(b[q+2].toNat:Int)=(V:Int)/\65536 * b[q].toNat+256 * b[q+1].toNat+b[q+2].toNat=V:=⟨65536 * b[q].toNat+256 * b[q+1].toNat+b[q+2].toNat,by omega,rfl⟩
      rw [y];rw [d] at u;clear y d O Q t2;go_wp2
      go_loopw [3,8] (λs M P=>∃(c:QL) (k:Nat),s=T c/\M=I J k/\k<=4/\H (c.data.toList=a.data.toList++(ru V 3).take k)/\P=w) (λ_ k _=>4 - (Y9 k).toNat)
      case atStart=>exact ⟨a,0,rfl,rfl,by omega,(by show _=_;simp),rfl⟩
      case round=>
       obtain ⟨c,k,rfl,rfl,Z,HT,rfl⟩:=hrel
       have g:H (c.size<=1125899906842624):=by
        show _<=_;have D:=congrArg List.length HT.out;have R:=congrArg List.length B.out;have E:=D8 (b.data.toList.take q);rw [ag,RI,Sm] at D;rw [Sm,ag] at E;omega
       by_cases h:k < 4
       .have p:decide ((k:Int) < 4)=YT:=by simp;omega
        by_cases j:k<=3
        .have l:(k:Int)<=3:=by omega
         have o:=GP V k;obtain ⟨A,m⟩:=QE (V / 2 ^ (18 - 6 * k) % 64);rw [m] at o;have x:(A:Int) < 64:=by omega
         have C:=K m;clear m;have r:¬9223372036854775807 < c.size+(min (A+1) 64 - A):=by have:=g.out;omega
         go_wp2_with fail
         refine ⟨⟨_,k+1,rfl,by go_num,by omega,?_,trivial⟩,by simp [Y9];omega⟩
         show _=_;rw [oj,mR V 3 k h, <-Sq, <-HT.out,fP j C.out, <-tf A (by omega)];rfl
        omega
       have p:decide ((k:Int) < 4)=F:=by simp;omega
       have f:H (k=4):=by show k=4;omega
       go_wp2_with fail
       refine ⟨⟨c,q+3,rfl,by go_num,by have:=HQ.out;omega,by rw [ag];omega,?_⟩,by simp [Y9];omega⟩
       rw [z.out,u.out, <-B.out,HT.out,f.out];rfl
    have i1:(q:Int)+1 < (b.size:Int):=by omega
    have i2:¬(q:Int)+2 < (b.size:Int):=by omega
    have O:(b[q].toNat:Int) < 256:=by have:=b[q].toNat_lt;omega
    have Q:(b[q+1].toNat:Int) < 256:=by have:=b[q+1].toNat_lt;omega
    have u:H (fJ ((b.data.toList.drop q).take 3)=ru (65536 * b[q].toNat+256 * b[q+1].toNat) 2):=by
     show _=_;rw [Ql b q W X,Qw]
    go_wp2
    go_loop [5,6,7] (λv n k=>(k=I J 0/\v=I J 0/\n=I J 0)\/(k=I J 1/\v=I J ((b[q].toNat:Int))/\n=I J 1)\/(k=I J 2/\v=I J (256 * (b[q].toNat:Int)+(b[q+1].toNat:Int))/\n=I J 2)\/(k=I J 3/\v=I J (256 * (256 * (b[q].toNat:Int)+(b[q+1].toNat:Int)))/\n=I J 2)) (λ_ _ k=>3 - (Y9 k).toNat)
    case atStart=>exact Y4 ⟨rfl,rfl,rfl⟩
    case round=>
     rcases hrel with ⟨rfl,rfl,rfl⟩ | ⟨rfl,rfl,rfl⟩ | ⟨rfl,rfl,rfl⟩ | ⟨rfl,rfl,rfl⟩
     .go_wp2
      go_round
      case rel=>exact Y5 (Y4 ⟨rfl,rfl,rfl⟩)
      case measure=>decide
     .go_wp2
      go_round
      case rel=>exact Y5 (Y5 (Y4 ⟨rfl,rfl,rfl⟩))
      case measure=>decide
     .go_wp2
      go_round
      case rel=>exact Y5 (Y5 (Y5 ⟨rfl,rfl,rfl⟩))
      case measure=>decide
     obtain ⟨V,y,d⟩:∃V:Nat,256 * (256 * (b[q].toNat:Int)+(b[q+1].toNat:Int))=(V:Int)/\65536 * b[q].toNat+256 * b[q+1].toNat=V:=⟨65536 * b[q].toNat+256 * b[q+1].toNat,by omega,rfl⟩
     rw [y];rw [d] at u;clear y d O Q;go_wp2
     go_loopw [3,8] (λs M P=>∃(c:QL) (k:Nat),s=T c/\M=I J k/\k<=4/\H (c.data.toList=a.data.toList++(ru V 2).take k)/\P=w) (λ_ k _=>4 - (Y9 k).toNat)
     case atStart=>exact ⟨a,0,rfl,rfl,by omega,(by show _=_;simp),rfl⟩
     case round=>
      obtain ⟨c,k,rfl,rfl,Z,HT,rfl⟩:=hrel
      have g:H (c.size<=1125899906842624):=by
       show _<=_;have D:=congrArg List.length HT.out;have R:=congrArg List.length B.out;have E:=D8 (b.data.toList.take q);rw [ag,RI,Sm] at D;rw [Sm,ag] at E;omega
      by_cases h:k < 4
      .have p:decide ((k:Int) < 4)=YT:=by simp;omega
       by_cases j:k<=2
       .have l:(k:Int)<=2:=by omega
        have o:=GP V k;obtain ⟨A,m⟩:=QE (V / 2 ^ (18 - 6 * k) % 64);rw [m] at o;have x:(A:Int) < 64:=by omega
        have C:=K m;clear m;have r:¬9223372036854775807 < c.size+(min (A+1) 64 - A):=by have:=g.out;omega
        go_wp2_with fail
        refine ⟨⟨_,k+1,rfl,by go_num,by omega,?_,trivial⟩,by simp [Y9];omega⟩
        show _=_;rw [oj,mR V 2 k h, <-Sq, <-HT.out,fP j C.out, <-tf A (by omega)];rfl
       have l:¬(k:Int)<=2:=by omega
       have r:¬9223372036854775807 < c.size+1:=by have:=g.out;omega
       go_wp2_with fail
       refine ⟨⟨_,k+1,rfl,by go_num,by omega,?_,trivial⟩,by simp [Y9];omega⟩
       show _=_;rw [oj,mR V 2 k h, <-Sq, <-HT.out,oK j]
      have p:decide ((k:Int) < 4)=F:=by simp;omega
      have f:H (k=4):=by show k=4;omega
      go_wp2_with fail
      refine ⟨⟨c,q+3,rfl,by go_num,by have:=HQ.out;omega,by rw [ag];omega,?_⟩,by simp [Y9];omega⟩
      rw [z.out,u.out, <-B.out,HT.out,f.out];rfl
   have i1:¬(q:Int)+1 < (b.size:Int):=by omega
   have i2:¬(q:Int)+2 < (b.size:Int):=by omega
   have O:(b[q].toNat:Int) < 256:=by have:=b[q].toNat_lt;omega
   have u:H (fJ ((b.data.toList.drop q).take 3)=ru (65536 * b[q].toNat) 1):=by
    show _=_;rw [Qk b q U W,Qv]
   go_wp2
   go_loop [5,6,7] (λv n k=>(k=I J 0/\v=I J 0/\n=I J 0)\/(k=I J 1/\v=I J ((b[q].toNat:Int))/\n=I J 1)\/(k=I J 2/\v=I J (256 * (b[q].toNat:Int))/\n=I J 1)\/(k=I J 3/\v=I J (256 * (256 * (b[q].toNat:Int)))/\n=I J 1)) (λ_ _ k=>3 - (Y9 k).toNat)
   case atStart=>exact Y4 ⟨rfl,rfl,rfl⟩
   case round=>
    rcases hrel with ⟨rfl,rfl,rfl⟩ | ⟨rfl,rfl,rfl⟩ | ⟨rfl,rfl,rfl⟩ | ⟨rfl,rfl,rfl⟩
    .go_wp2
     go_round
     case rel=>exact Y5 (Y4 ⟨rfl,rfl,rfl⟩)
     case measure=>decide
    .go_wp2
     go_round
     case rel=>exact Y5 (Y5 (Y4 ⟨rfl,rfl,rfl⟩))
     case measure=>decide
    .go_wp2
     go_round
     case rel=>exact Y5 (Y5 (Y5 ⟨rfl,rfl,rfl⟩))
     case measure=>decide
    obtain ⟨V,y,d⟩:∃V:Nat,256 * (256 * (b[q].toNat:Int))=(V:Int)/\65536 * b[q].toNat=V:=⟨65536 * b[q].toNat,by omega,rfl⟩
    rw [y];rw [d] at u;clear y d O;go_wp2
    go_loopw [3,8] (λs M P=>∃(c:QL) (k:Nat),s=T c/\M=I J k/\k<=4/\H (c.data.toList=a.data.toList++(ru V 1).take k)/\P=w) (λ_ k _=>4 - (Y9 k).toNat)
    case atStart=>exact ⟨a,0,rfl,rfl,by omega,(by show _=_;simp),rfl⟩
    case round=>
     obtain ⟨c,k,rfl,rfl,Z,HT,rfl⟩:=hrel
     have g:H (c.size<=1125899906842624):=by
      show _<=_;have D:=congrArg List.length HT.out;have R:=congrArg List.length B.out;have E:=D8 (b.data.toList.take q);rw [ag,RI,Sm] at D;rw [Sm,ag] at E;omega
     by_cases h:k < 4
     .have p:decide ((k:Int) < 4)=YT:=by simp;omega
      by_cases j:k<=1
      .have l:(k:Int)<=1:=by omega
       have o:=GP V k;obtain ⟨A,m⟩:=QE (V / 2 ^ (18 - 6 * k) % 64);rw [m] at o;have x:(A:Int) < 64:=by omega
       have C:=K m;clear m;have r:¬9223372036854775807 < c.size+(min (A+1) 64 - A):=by have:=g.out;omega
       go_wp2_with fail
       refine ⟨⟨_,k+1,rfl,by go_num,by omega,?_,trivial⟩,by simp [Y9];omega⟩
       show _=_;rw [oj,mR V 1 k h, <-Sq, <-HT.out,fP j C.out, <-tf A (by omega)];rfl
      have l:¬(k:Int)<=1:=by omega
      have r:¬9223372036854775807 < c.size+1:=by have:=g.out;omega
      go_wp2_with fail
      refine ⟨⟨_,k+1,rfl,by go_num,by omega,?_,trivial⟩,by simp [Y9];omega⟩
      show _=_;rw [oj,mR V 1 k h, <-Sq, <-HT.out,oK j]
     have p:decide ((k:Int) < 4)=F:=by simp;omega
     have f:H (k=4):=by show k=4;omega
     go_wp2_with fail
     refine ⟨⟨c,q+3,rfl,by go_num,by have:=HQ.out;omega,by rw [ag];omega,?_⟩,by simp [Y9];omega⟩
     rw [z.out,u.out, <-B.out,HT.out,f.out];rfl
  have HE:H (fJ b.data.toList=a.data.toList):=by
   show _=_;rw [B.out,List.take_of_length_le (by rw [ag];omega)]
  go_wp2
  go_ret;refine ⟨?_,rfl⟩;rw [HE.out];exact congrArg (λt=>YX (T t)) (Lib.mk_data a).symm
theorem PJ:Rows.talksUptoRow.wfByText (Rows.OpenSpec.upto Rows.talksSpec)=YT:=by kernel_rfl
theorem PG:Tryz.pinned.checked.prog.mainIs=S (Rows.talksUptoCard.stood.harness.1,Rows.talksUptoCard.stood.harness.2.toList):=by kernel_rfl
theorem PH:(!Rows.talksUptoCard.stood.harness.1 && Rows.talksUptoCard.stood.harness.2.isEmpty && !Rows.talksUptoCard.stood.looks)=F:=by kernel_rfl
theorem PF:Rows.talksUptoCard.stood.looks=Tryz.pinned.checked.prog.looks []:=by kernel_rfl
theorem PE:F=Rows.talksUptoRow.goesBy Tryz.pinned.checked.prog:=by kernel_rfl
theorem PI:prog.wantsStandIn 22=F:=by kernel_rfl
theorem PD:prog.funcNamed Rows.talksUptoRow.func=S 3:=by kernel_rfl
end Go.Proofs.YtponhohdpophlaaGreatDoor
