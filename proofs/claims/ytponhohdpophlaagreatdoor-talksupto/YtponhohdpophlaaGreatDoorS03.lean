import Derived.Test.YtponhohdpophlaaGreatDoorS00
import Derived.Lib.IndexMore
import Derived.Lib.IndexLaws
import Derived.Lib.IndexAny
import Derived.Lib.Split
import Derived.Lib.SplitLaws
import Derived.Lib.Case
import Derived.Test.YtponhohdpophlaaGreatDoorProg
import Derived.WalkKit
import Derived.WalkSpells
import Derived.WalkLawsBesides
import Derived.Lib.Strings
import Derived.Lib.IndexBytes
import Derived.Laws.BitsLemmas
import Derived.Laws.IdiomStrings
import Derived.Laws.MakeOwn
import Derived.Lib.ConvBytes
import Derived.Lib.UnsafeStr
import Derived.Shelf.Strings.Builder1
import Derived.Shelf.Strings.Builder2
import Derived.Shelf.Strings.OnBuilder
import Derived.Shelf.Small.Utf8
import Derived.Shelf.Small.Strs
import Derived.Shelf.Small.Wraps
import Derived.Shelf.Strings.BuilderF
import Derived.Shelf.Strings.BuilderK
import Derived.Shelf.Strconv.Atoi
import Derived.Shelf.Strconv.Itoa0
import Derived.Shelf.Strconv.Itoa1
import Derived.Shelf.LaysM
import Derived.Shelf.Strconv.Itoa2
import Derived.Shelf.Strconv.Itoa3
import Derived.Shelf.Strconv.Clone
import Derived.Shelf.Strings.Search1
import Derived.Shelf.Strings.Search2
import Derived.Shelf.Strings.Search3
import Derived.Shelf.Strings.Cut
import Derived.Shelf.Strings.Count
import Derived.Shelf.Strings.Shaped
import Derived.Shelf.Strings.Prefix
import Derived.Shelf.Strings.Split
import Derived.Shelf.Strings.Fold
import Derived.Shelf.Strings.SplitShaped
import Derived.Shelf.Unicode.Latin
import Derived.Shelf.Unicode.DecodeSlow
import Derived.Shelf.Unicode.DecodeAny
import Derived.Shelf.Unicode.CaseLookup
import Derived.Shelf.Unicode.CaseConvert
import Derived.Shelf.Unicode.CaseTo
import Derived.Shelf.Unicode.CaseLaid
import Derived.Shelf.Bytes.Small
import Derived.Laws.BitsAllLaws
import Derived.Deep.QuietTactic
import Derived.BigQuiet
import Derived.Deep.RegionWith
import Derived.Deep.RegionHeld3
import Derived.Maps.AppendAt
import Derived.OwnWalk
import Derived.Deep.RegionLaw
import Derived.Deep.AppendLies
import Derived.BigRegion
import Derived.Deep.Onto
import Derived.Laws.CopyRow
import Derived.Maps.OwnSet
import Derived.WalkArith
import Derived.Maps.RangeRun
import Derived.Lib.SliceRun
import Derived.Shelf.SlIterI.Nil
import Derived.Shelf.SortM.Plain
import Derived.Shelf.SortM.SortNone
import Derived.Conc.LoneCalls
import Derived.KernelRfl
import Derived.Conc.LoneSelect
import Derived.Defers
namespace Go.Proofs.YtponhohdpophlaaGreatDoor
set_option maxHeartbeats 8000000
set_option maxRecDepth 1000000
open Go renaming heap_setCell_same->Ro,maxLen->Y7,Calls->Y8,Ending->Zb
open Go.Ending renaming returned->YX
open Go.Frame renaming finish_at->VZ
open Go.IntKind renaming i64->J,wrap_i64->QY
open Go.Lib renaming cell_of_heap->Q3,frozen_of_heap->RJ,toList_data->SF,indexByte_some->Ss,extract_data->Su,indexByte_ge->Sw
open Go.Proofs.Tryz renaming underlying100->RG,underlying9->RH,ntmps110->Ub,underlying5->Ux,func58->V6,func110->WO,prog->Ys
open Go.RowKit renaming Hid->H,Below->Y6,intOf->Y9
open Go.Value renaming int->I,slice->L,string->T,pointer->YV,bool->YW,tuple->YY
open _root_.Bool renaming false->F,eq_iff_iff->Ri,and_eq_true->Rk,not_eq_true'->Rm,and_false->SG,false_eq_true->Tm,or_eq_true->Ty,true->YT
open _root_.List renaming getD_eq_getElem?_getD->Q5,take_succ_eq_append_getElem->QV,take_length->QZ,map_nil->RF,length_append->RI,all_eq_true->Rb,getElem?_eq_getElem->Re,mem_cons->Rf,mem_of_getElem?->SB,take_of_length_le->SQ,drop_zero->SY,getElem?_eq_none->Sg,length_take->Sm,append_assoc->Sq,reverse_cons->Ti,mem_iff_getElem->Tn,getElem?_drop->Tq,mem_cons_self->Tw,mem_cons_of_mem->Tx,foldl_append->UP,length_singleton->V2,flatten_cons->V7
open _root_.Nat renaming le_refl->QR,zero_le->QS,pow_le_pow_right->S8,lt_of_lt_of_le->SA,mod_eq_of_lt->SV,lt_or_ge->Tp,div_div_eq_div_mul->UM,pow_succ'->UN,xor_lt_two_pow->UO,mul_one->Vf,pow_succ->Vu
open _root_.Option renaming none->N,some->S
open _root_.UInt8 renaming toNat_ofNat'->TA,toNat_inj->Tz,le_iff_toNat_le->Uq
open Go
def qv(c:Int):Bool:=(decide (97<=c) && decide (c<=122)) || (decide (65<=c) && decide (c<=90))
def dX(c:Int):Bool:=decide (48<=c) && decide (c<=57)
def CF(c:UInt8):Bool:=qv c.toNat || dX c.toNat
def wS(l m:QF):Bool:=l.all λc=>CF c || !decide (Lib.indexByte m c < 0)
def qp(l:QF):Bool:=decide (1<=l.length) && decide (l.length<=20) && !Lib.hasPrefix l [45] && !Lib.hasSuffix l [45] && wS l [45]
def oc(l:QF):Bool:=decide (1<=l.length) && decide (l.length<=20) && !Lib.hasPrefix l [46] && !Lib.hasSuffix l [46] && !Lib.contains l [46,46] && wS l [45,95,43,46]
def aJ(c:UInt8):QF->QF×QF×Bool
 | []=>([],[],F)
 | b::r=>if b=c then ([],r,YT) else (b::(aJ c r).1,(aJ c r).2.1,(aJ c r).2.2)
def bV(c:UInt8):QF->List QF
 | []=>[[]]
 | b::r=>if b=c then []::bV c r else (b::(bV c r).headD [])::(bV c r).tail
def fI(l:QF):Bool:=decide (l.length<=40) && (bV 46 l).all qp
def jl(l:QF):Bool:=decide (1<=l.length) && decide (l.length<=20) && !(l.getD 0 0 == 45) && !(l.getD (l.length - 1) 0 == 45) && l.all λc=>CF c || c == 45
def qU(l:QF)(i:Nat):Bool:=CF (l.getD i 0) || l.getD i 0 == 45 || l.getD i 0 == 95 || l.getD i 0 == 43 || (l.getD i 0 == 46 && !(l.getD (i - 1) 0 == 46))
def oM(l:QF):Bool:=decide (1<=l.length) && decide (l.length<=20) && !(l.getD 0 0 == 46) && !(l.getD (l.length - 1) 0 == 46) && (List.range l.length).all (qU l)
theorem mw(l:QF)(c:UInt8)(h:1<=l.length):Lib.hasPrefix l [c]=(l.getD 0 0 == c):=by
 cases l with
 | nil=>simp at h
 | cons b r=>
  rw [Ri];simp [Lib.hasPrefix,List.isPrefixOf];exact eq_comm
theorem pP(l:QF)(c:UInt8)(h:1<=l.length):Lib.hasSuffix l [c]=(l.getD (l.length - 1) 0 == c):=by
 rw [Lib.hasSuffix,List.isSuffixOf];have a:1<=l.reverse.length:=by simpa using h
 have:=mw l.reverse c a;rw [Lib.hasPrefix] at this;simp only [Ti,List.reverse_nil,List.nil_append];rw [this]
 congr 1
 rw [Q5,Q5,List.getElem?_reverse (show 0 < l.length by omega)];simp
theorem kG(m:QF)(c:UInt8):(!decide (Lib.indexByte m c < 0))=m.contains c:=by
 rw [Lib.contains_iff_indexByte];have:=Sw m c
 by_cases h:Lib.indexByte m c < 0
 .have a:¬0<=Lib.indexByte m c:=by omega
  simp [h,a]
 have a:0<=Lib.indexByte m c:=by omega
 simp [h,a]
theorem JA(l:QF):qp l=jl l:=by
 unfold qp jl
 by_cases h:1<=l.length
 .rw [mw l 45 h,pP l 45 h]
  congr 1
  unfold wS
  congr 1
  funext c
  rw [kG,Ri];simp
 simp [h]
theorem gj(c:UInt8):∀l:QF,(aJ c l).2.2=YT->l=(aJ c l).1++c::(aJ c l).2.1/\bV c l=(aJ c l).1::bV c (aJ c l).2.1/\Lib.indexByte l c=((aJ c l).1.length:Int)
 | [],h=>by simp [aJ] at h
 | b::r,h=>by
  by_cases a:b=c
  .subst a;simp [aJ,bV,Lib.indexByte]
  have d:(b == c)=F:=by simpa using a
  have i:(aJ c r).2.2=YT:=by simpa [aJ,a] using h
  obtain ⟨e,f,g⟩:=gj c r i;refine ⟨?_,?_,?_⟩
  .simp only [aJ,a,if_false,List.cons_append];rw [<-e]
  .simp only [aJ,bV,a,if_false];rw [f];rfl
  simp only [aJ,a,if_false,Lib.indexByte,d,Tm];rw [g];have:(((aJ c r).1.length:Int) == -1)=F:=by rw [beq_eq_false_iff_ne];omega
  rw [this];simp
theorem iY(c:UInt8):∀l:QF,(aJ c l).2.2=F->aJ c l=(l,[],F)/\bV c l=[l]/\Lib.indexByte l c= -1
 | [],h=>by simp [aJ,bV,Lib.indexByte]
 | b::r,h=>by
  by_cases a:b=c
  .subst a;simp [aJ] at h
  have d:(b == c)=F:=by simpa using a
  have i:(aJ c r).2.2=F:=by simpa [aJ,a] using h
  obtain ⟨e,f,g⟩:=iY c r i;refine ⟨?_,?_,?_⟩
  .simp only [aJ,a,if_false];rw [e]
  .simp only [bV,a,if_false];rw [f];rfl
  simp only [Lib.indexByte,d,Tm,if_false];rw [g];rfl
theorem Da(c:UInt8):∀(l:QF) (i:Nat),l[i]? =S c->(∀j:Nat,j < i->l[j]? ≠S c)->aJ c l=(l.take i,l.drop (i+1),YT)
 | [],i,h,_=>by simp at h
 | b::r,0,h,_=>by
  have:b=c:=by simpa using h
  simp [aJ,this]
 | b::r,i+1,h,hn=>by
  have a:b≠c:=by simpa using hn 0 (by omega)
  have d:=Da c r i (by simpa using h) (λj e=>by simpa using hn (j+1) (by omega));simp only [aJ,a,if_false];rw [d];simp
theorem uX(c:UInt8):∀(l:QF),(∀j:Nat,l[j]? ≠S c)->aJ c l=(l,[],F)
 | [],_=>rfl
 | b::r,hn=>by
  have a:b≠c:=by simpa using hn 0
  have d:=uX c r (λj=>by simpa using hn (j+1));simp only [aJ,a,if_false];rw [d]
theorem Mi(c:UInt8)(l:QF):aJ c l=if 0<=Lib.indexByte l c then (l.take (Lib.indexByte l c).toNat,l.drop ((Lib.indexByte l c).toNat+1),YT) else (l,[],F):=by
 have b:=Sw l c
 by_cases h:0<=Lib.indexByte l c
 .rw [if_pos h];obtain ⟨n,a⟩:=Int.eq_ofNat_of_zero_le h;have:=Ss a;rw [a];exact Da c l n this.1 this.2
 rw [if_neg h];exact uX c l (Lib.indexByte_none (by omega))
theorem rY(c:UInt8):∀(k:Nat) (l:QF),l.count c=k->Lib.splitK [c] 0 k l=bV c l
 | 0,l,h=>by
  have v:∀j:Nat,l[j]? ≠S c:=λj d=>by
   have:=SB d;rw [List.count_eq_zero] at h;exact h this
  have r:(aJ c l).2.2=F:=by rw [uX c l v]
  rw [(iY c l r).2.1];rfl
 | k+1,l,h=>by
  cases m:(aJ c l).2.2
  case false=>
   have o:=(iY c l m).2.2;exfalso;have:c∈l:=List.count_pos_iff.1 (by omega);obtain ⟨j,d,e⟩:=Tn.1 this;exact Lib.indexByte_none o j (by rw [Re d,e])
  obtain ⟨f,n,i⟩:=gj c l m
  have g:(aJ c l).1.count c=0:=by
   rw [List.count_eq_zero];intro u;obtain ⟨j,d,e⟩:=Tn.1 u;refine (Ss i).2 j d ?_;rw [f,List.getElem?_append_left d,Re d,e]
  have t:(aJ c l).2.1.count c=k:=by
   have:=h;rw [f,List.count_append,g,List.count_cons_self] at this;omega
  have y:=rY c k _ t;have s:(((aJ c l).1.length:Int) == -1)=F:=by rw [beq_eq_false_iff_ne];omega
  rw [Lib.splitK,Lib.index_one,i,s,n, <-y]
  have p:∀a b:QF,l=a++c::b->List.take ((a.length:Int).toNat+0) l=a/\List.drop ((a.length:Int).toNat+[c].length) l=b:=by
   rintro a b rfl;have x:a.length+1 - a.length=1:=by omega
   simp [List.drop_append,x]
  obtain ⟨w,q⟩:=p _ _ f;rw [w,q];rfl
theorem NT(l:QF):Lib.split l [46]=bV 46 l:=by
 rw [Lib.split,Lib.count_one];exact rY 46 _ l rfl
theorem rl(a b:UInt8):∀l:QF,List.isPrefixOf [a,b] l=(l[0]? == S a && l[1]? == S b)
 | []=>rfl
 | [x]=>by simp [List.isPrefixOf]
 | x::y::r=>by
  rw [Ri];simp [List.isPrefixOf]
  constructor <;> (rintro ⟨c,d⟩;exact ⟨c.symm,d.symm⟩)
theorem pL(l:QF):Lib.contains l [46,46]=YT ↔ ∃i:Nat,l[i]? =S (46:UInt8)/\l[i+1]? =S (46:UInt8):=by
 rw [Lib.contains,decide_eq_true_eq]
 rcases Lib.index_spec l [46,46] with ⟨d,c⟩ | ⟨i,d,c,a,f⟩
 .constructor
  .intro h;omega
  rintro ⟨i,b,e⟩
  have g:i < l.length:=by
   rcases Tp i l.length with h | h
   .exact h
   rw [Sg h] at b;cases b
  have:=c i (by omega);rw [Lib.occAt,rl] at this;simp [Tq,b,e] at this
 constructor
 .intro _;rw [Lib.occAt,rl] at a;simp [Tq] at a;exact ⟨i,a.1,a.2⟩
 intro _;omega
theorem OQ(l:QF):oc l=oM l:=by
 unfold oc oM
 by_cases h:1<=l.length
 .rw [mw l 46 h,pP l 46 h,Bool.and_assoc _ (!Lib.contains l [46,46]) _]
  by_cases r:l.getD 0 0=46
  .rw [r];have e:(!((46:UInt8) == 46))=F:=rfl;simp only [e,SG,Bool.false_and]
  congr 1
  rw [Ri];simp only [Rk,Rm,wS,Rb,List.mem_range]
  constructor
  .rintro ⟨b,f⟩ i a;have g:l[i]? =S (l.getD i 0):=by rw [Q5,Re a];rfl
   have:=f (l.getD i 0) (SB g);rw [kG] at this;simp only [qU]
   by_cases d:l.getD i 0=46
   .have o:l.getD (i - 1) 0≠46:=by
     intro o
     have t:0 < i:=by
      rcases Nat.eq_zero_or_pos i with j | j
      .subst j;exact absurd d r
      exact j
     have n:i - 1 < l.length:=by omega
     have q:l[i - 1]? =S (l.getD (i - 1) 0):=by rw [Q5,Re n];rfl
     have:=(pL l).2 ⟨i - 1,by rw [q,o],by rw [show i - 1+1=i by omega,g,d]⟩
     rw [this] at b;cases b
    have p:(l.getD (i - 1) 0 == 46)=F:=by simpa using o
    rw [d,p];rfl
   simp at this
   rcases this with h | h | h | h | h
   .simp [h]
   .simp [h]
   .simp [h]
   .simp [h]
   exact absurd h d
  intro f
  constructor
  .cases b:Lib.contains l [46,46]
   case false=>rfl
   obtain ⟨i,s,k⟩:=(pL l).1 b
   have a:i+1 < l.length:=by
    rcases Tp (i+1) l.length with h | h
    .exact h
    rw [Sg h] at k;cases k
   have:=f (i+1) a;simp only [qU,Q5,k,show i+1 - 1=i by omega,s] at this
   exact absurd this (by decide)
  intro c m;obtain ⟨i,a,e⟩:=Tn.1 m;have:=f i a;have g:l.getD i 0=c:=by rw [Q5,Re a];exact e
  rw [kG];simp only [qU,g] at this;simp at this ⊢
  rcases this with (((h | h) | h) | h) | h
  .exact Or.inl h
  .exact Or.inr (Or.inl h)
  .exact Or.inr (Or.inr (Or.inl h))
  .exact Or.inr (Or.inr (Or.inr (Or.inl h)))
  exact Or.inr (Or.inr (Or.inr (Or.inr h.1)))
 simp [h]
def kS(l:QF):Bool:= !l.isEmpty && decide (l.length<=40) && (bV 46 l).all jl
theorem kE(l:QF):fI l=kS l:=by
 unfold fI kS;have:qp=jl:=funext JA;rw [this]
 cases l with
 | nil=>rfl
 | cons b r=>simp
theorem nD(c:UInt8):∀(l:QF) (b:UInt8),b∈l->b=c\/∃p∈bV c l,b∈p
 | [],b,h=>by cases h
 | x::r,b,h=>by
  by_cases f:x=c
  .rcases Rf.1 h with e | h
   .left;rw [e,f]
   rcases nD c r b h with e | ⟨p,a,d⟩
   .exact Or.inl e
   right;refine ⟨p,?_,d⟩;simp [bV,f,a]
  simp only [bV,f,if_false]
  rcases Rf.1 h with e | h
  .right;exact ⟨_,Tw,by rw [e];exact Tw⟩
  rcases nD c r b h with e | ⟨p,a,d⟩
  .exact Or.inl e
  right
  cases g:bV c r with
  | nil=>rw [g] at a;cases a
  | cons q qs=>
   rw [g] at a
   rcases Rf.1 a with e | a
   .subst e;exact ⟨_,Tw,Tx _ d⟩
   exact ⟨p,Tx _ a,d⟩
theorem Qi(c:UInt8)(h:CF c=YT):c.toNat < 128:=by
 simp only [CF,qv,dX,Ty,Rk,decide_eq_true_eq] at h;omega
theorem sJ(l:QF)(h:fI l=YT):∀(j:Nat) (b:UInt8),l[j]? =S b->b.toNat < 128:=by
 intro j b c;rw [kE] at h;simp only [kS,Rk,Rb] at h
 rcases nD 46 l b (SB c) with e | ⟨p,d,a⟩
 .rw [e];decide
 have:=h.2 p d;simp only [jl,Rk,Rb] at this;have:=this.2 b a;rw [Ty] at this
 rcases this with h | h
 .exact Qi b h
 have:b=45:=by simpa using h
 rw [this];decide
theorem Ml(l:QF)(h:fI l=YT):l.length<=40:=by
 simp only [fI,Rk,decide_eq_true_eq] at h;exact h.1
theorem Mm(c:UInt8)(p:QF->Bool)(l x y:QF)(f:Bool)(h:aJ c l=(x,y,f)):(bV c l).all p=(p x && (!f || (bV c y).all p)):=by
 cases f
 case true=>
  have:=(gj c l (by rw [h])).2.1;rw [this,h];simp
 obtain ⟨a,b,_⟩:=iY c l (by rw [h]);rw [a] at h;obtain ⟨rfl,rfl⟩:l=x/\[]=y:=by simpa using h
 rw [b];simp
theorem nj(c:UInt8)(l x y:QF)(f:Bool)(h:aJ c l=(x,y,f)):x.length<=l.length/\y.length<=l.length/\(f=YT->y.length < l.length):=by
 cases f
 case true=>
  have:=(gj c l (by rw [h])).1;rw [h] at this;have e:l.length=x.length+(y.length+1):=by rw [this];simp
  exact ⟨by omega,by omega,λ_=>by omega⟩
 obtain ⟨a,b,_⟩:=iY c l (by rw [h]);rw [a] at h;obtain ⟨rfl,rfl⟩:l=x/\[]=y:=by simpa using h
 exact ⟨QR _,QS _,λh=>by cases h⟩
def Nj(c:UInt8):Bool:=CF c || c == 45
theorem Pa{c:UInt8}(h:qv c.toNat=YT):Nj c=YT:=by simp [Nj,CF,h]
theorem OZ{c:UInt8}(h:dX c.toNat=YT):Nj c=YT:=by simp [Nj,CF,h]
theorem Nk{c:UInt8}(h:((c.toNat:Int) != 45)=F):Nj c=YT:=by
 have h:(c.toNat:Int)=45:=by simpa using h
 have:c=45:=Tz.1 (by show c.toNat=45;omega);simp [Nj,this]
theorem PZ{c:UInt8}(b:¬qv c.toNat=YT)(d:¬dX c.toNat=YT)(a:((c.toNat:Int) != 45)=YT):Nj c=F:=by
 have a:¬(c.toNat:Int)=45:=by simpa using a
 have:c≠45:=λe=>a (by rw [e];rfl);simp [Nj,CF,b,d,this]
theorem ma{p:UInt8->Bool}{l:QF}{k:Nat}{c:UInt8}(b:∀j:Nat,j < k->p (l.getD j 0)=YT)(a:l.getD k 0=c)(h:p c=YT):∀j:Nat,j < k+1->p (l.getD j 0)=YT:=by
 intro j d
 by_cases e:j < k
 .exact b j e
 have:j=k:=by omega
 rw [this,a];exact h
theorem vz{p:UInt8->Bool}{l:QF}(h:∀j:Nat,j < l.length->p (l.getD j 0)=YT):l.all p=YT:=by
 rw [Rb];intro c b;obtain ⟨i,a,e⟩:=Tn.1 b;have:=h i a;rw [Q5,Re a] at this;rw [<-e];exact this
theorem qg{p:UInt8->Bool}{l:QF}{k:Nat}(a:k < l.length)(h:p (l.getD k 0)=F):l.all p=F:=by
 cases e:l.all p
 case false=>rfl
 rw [Rb] at e;have:=e (l.getD k 0) (by rw [Q5,Re a];exact List.getElem_mem a);rw [h] at this;cases this
theorem ji(c:UInt8)(n:Nat)(a:n < 256):((c.toNat:Int) == (n:Int))=(c == UInt8.ofNat n):=by
 rw [Ri,beq_iff_eq,beq_iff_eq]
 constructor
 .intro h;exact Tz.1 (by rw [TA];omega)
 intro h;rw [h,TA];omega
theorem OL{l:QF}{a z:UInt8}(i:1<=l.length)(k:l.length<=20)(m:l.getD 0 0=a)(n:l.getD (l.length - 1) 0=z)(b:((a.toNat:Int) == 45)=F)(d:((z.toNat:Int) == 45)=F)(h:∀j:Nat,j < l.length->Nj (l.getD j 0)=YT):jl l=YT:=by
 have f:=ji a 45 (by decide);have g:=ji z 45 (by decide);have e:(a == (45:UInt8))=F:=f.symm.trans b;have o:(z == (45:UInt8))=F:=g.symm.trans d;have:=vz (p:=λc=>CF c || c == 45) h;simp only [jl,m,n,e,o,this,decide_eq_true i,decide_eq_true k];rfl
theorem Fb{l:QF}(h:¬(1<=l.length/\l.length<=20)):jl l=F:=by
 cases e:jl l
 case false=>rfl
 simp only [jl,Rk,decide_eq_true_eq] at e;exact absurd ⟨e.1.1.1.1,e.1.1.1.2⟩ h
theorem KL{l:QF}{a z:UInt8}(d:l.getD 0 0=a)(f:l.getD (l.length - 1) 0=z)(h:¬(((a.toNat:Int) == 45)=F/\((z.toNat:Int) == 45)=F)):jl l=F:=by
 have b:=ji a 45 (by decide);have c:=ji z 45 (by decide)
 cases e:jl l
 case false=>rfl
 simp only [jl,Rk,decide_eq_true_eq,Rm,d,f] at e;exact absurd ⟨b.trans e.1.1.2,c.trans e.1.2⟩ h
theorem OK{l:QF}{k:Nat}{c:UInt8}(b:k < l.length)(a:l.getD k 0=c)(h:Nj c=F):jl l=F:=by
 have:=qg (p:=λc=>CF c || c == 45) b (by rw [a];exact h);simp only [jl,this,SG]
open Go.Proofs.Tryz
open Go.RowKit
theorem b8{a b:Bool}(h:a=b):YX (YW a)=YX (YW b):=by rw [h]
theorem de(c:Int)(w:QI):Y8 Ys 181 #[I .u8 c] w λe a=>e=YX (YW (qv c))/\a=w:=by
 go_enter func181,ntmps181;go_wp2
 all_goals
  go_ret;exact ⟨b8 (by rw [Ri];simp [qv];omega),rfl⟩
theorem dv(c:Int)(w:QI):Y8 Ys 182 #[I .u8 c] w λe a=>e=YX (YW (dX c))/\a=w:=by
 go_enter func182,ntmps182;go_wp2
 all_goals
  go_ret;exact ⟨b8 (by rw [Ri];simp [dX];omega),rfl⟩
theorem jg(c:Int)(w:QI):Y8 Ys 264 #[I .u8 c] w λe a=>e=YX (YW (qv c || dX c))/\a=w:=by
 go_enter func264,ntmps264;go_wp2
 all_goals
  go_ret;exact ⟨b8 (by rw [Ri];simp [qv,dX];omega),rfl⟩
theorem Hs(s:QL)(k:Nat)(h:k < s.size):s.data.toList[k]? =S s[k]:=by
 rw [Re (by simpa using h)];rfl
theorem Ou{a b:UInt8}{c:Int}(d:(b.toNat:Int)=c)(h:((a.toNat:Int) == c)=F):a≠b:=by
 intro e;subst e;rw [d] at h;simp at h
theorem Ot{a b:UInt8}{c:Int}(d:(b.toNat:Int)=c)(h:((a.toNat:Int) == c)=YT):a=b:=by
 have h:(a.toNat:Int)=c:=by simpa using h
 rw [<-d] at h;exact Tz.1 (by omega)
def kA(b:UInt8)(l:QF)(w:QI)(e:Zb)(w':QI):Prop:=
 ∃(x y:QL) (f:Bool),e=YX (YY #[T x,T y,YW f])/\aJ b l=(x.data.toList,y.data.toList,f)/\∃n,w'=w.drewN n
theorem kA.mk{b:UInt8}{l:QF}{w:QI}{e:Zb}{a:QI}(x y:QL)(f:Bool)(d:e=YX (YY #[T x,T y,YW f]))(c:aJ b l=(x.data.toList,y.data.toList,f))(n:Nat)(g:a=w.drewN n):kA b l w e a:=
 ⟨x,y,f,d,c,n,g⟩
theorem l9(s:QL)(c:Int)(b:UInt8)(l:H ((b.toNat:Int)=c))(w:QI)(n:s.size<=Y7):Y8 Ys 123 #[T s,I .u8 c] w (kA b s.data.toList w):=by
 unfold maxLen at n;go_enter func123,ntmps123;go_wp2
 go_loop [7] (λi=>∃k:Nat,k<=s.size/\i=I J k/\H (∀j:Nat,j < k->s.data.toList[j]? ≠S b)) (λi=>s.size - (Y9 i).toNat)
 case atStart=>exact ⟨0,QS _,rfl,λj f=>by omega⟩
 case round=>
  obtain ⟨k,o,rfl,d⟩:=hrel
  by_cases g:k < s.size
  .have m:H (s.data.toList[k]? =S s[k]):=Hs s k g;go_wp2
   .go_region
    go_wp2
    go_ret3
    refine kA.mk _ _ _ rfl ?_ 1 rfl;have a:s[k]=b:=Ot l.out ‹_›;rw [Da b s.data.toList k (by rw [m.out,a]) d.out];rw [Su,Lib.extract_to_end];rfl
   have a:H (s[k]≠b):=Ou l.out ‹_›;go_round
   case rel=>exact ⟨k+1,by omega,by go_num,λj f=>by
    by_cases e:j < k
    .exact d.out j e
    have:j=k:=by omega
    rw [this,m.out];intro h
    exact a.out (Option.some.inj h)⟩
   case measure=>simp [Y9];omega
  go_wp2
  go_ret3
  exact kA.mk _ _ _ rfl (uX b _ (λj=>by
   by_cases f:j < k
   .exact d.out j f
   rw [Sg (by simp;omega)];simp)) 0 rfl
def Li:Nat:=3988292384
def ow(c:Nat):Nat:=(c / 2) ^^^ (if c % 2=1 then Li else 0)
def my(c b:Nat):Nat:=if b % 2=c % 2 then c / 2 else (c / 2) ^^^ Li
theorem Oc(a b:Nat):(a ^^^ b) / 2=a / 2 ^^^ b / 2:=by
 have:=Nat.shiftRight_xor_distrib (a:=a) (b:=b) (i:=1);simpa [Nat.shiftRight_eq_div_pow] using this
theorem Ov(c b:Nat):ow (c ^^^ b)=my c b ^^^ (b / 2):=by
 unfold ow my;rw [Oc]
 have h:(c ^^^ b) % 2=1 ↔ ¬b % 2=c % 2:=by
  rw [Nat.xor_mod_two_eq_one];omega
 by_cases e:b % 2=c % 2
 .rw [if_neg (by rw [h];exact λk=>k e),if_pos e,Nat.xor_zero]
 rw [if_pos (h.2 e),if_neg e];rw [Nat.xor_assoc,Nat.xor_assoc,Nat.xor_comm Li]
def jT:Nat->Nat->Nat
 | 0,c=>c
 | n+1,c=>jT n (ow c)
def js:Nat->Nat->Nat->Nat
 | 0,c,_=>c
 | n+1,c,b=>js n (my c b) (b / 2)
theorem EF:∀(n c b:Nat),jT n (c ^^^ b)=js n c b ^^^ (b / 2 ^ n)
 | 0,c,b=>by simp [jT,js]
 | n+1,c,b=>by
  rw [jT,js,Ov,EF n,UM, <-UN]
theorem nI:∀(n c b:Nat),js (n+1) c b=my (js n c b) (b / 2 ^ n)
 | 0,c,b=>by simp [js]
 | n+1,c,b=>by
  rw [js,nI n,js,UM, <-UN]
theorem qZ:∀(n c:Nat),jT (n+1) c=ow (jT n c)
 | 0,c=>rfl
 | n+1,c=>by rw [jT,qZ n,jT]
theorem Ka{c:Nat}(h:c < 2 ^ 32):ow c < 2 ^ 32:=by
 unfold ow;refine UO (by omega) ?_
 split <;> decide
theorem Ls{c b:Nat}(h:c < 2 ^ 32):my c b < 2 ^ 32:=by
 unfold my
 split
 .omega
 exact UO (by omega) (by decide)
theorem vZ:∀(n:Nat) {c:Nat},c < 2 ^ 32->jT n c < 2 ^ 32
 | 0,_,h=>h
 | n+1,_,h=>vZ n (Ka h)
theorem zJ:∀(n:Nat) {c b:Nat},c < 2 ^ 32->js n c b < 2 ^ 32
 | 0,_,_,h=>h
 | n+1,_,_,h=>zJ n (Ls h)
def C4(c:Nat)(b:UInt8):Nat:=js 8 c b.toNat
theorem He(c:Nat)(b:UInt8):jT 8 (c ^^^ b.toNat)=C4 c b:=by
 rw [EF];have:b.toNat / 2 ^ 8=0:=Nat.div_eq_of_lt b.toNat_lt;rw [this,Nat.xor_zero];rfl
def BC(c:Nat)(l:QF):Nat:=l.foldl C4 c
def po(l:QF):Nat:=4294967295 - BC 4294967295 l
theorem v8(c:Nat)(l:QF)(k:Nat)(h:k < l.length):BC c (l.take (k+1))=C4 (BC c (l.take k)) l[k]:=by
 unfold BC;rw [QV h,UP];rfl
theorem lh(k:IntKind)(j:Nat)(l:j<=k.bits)(m:∀n:Int,0<=n->n < 2 ^ j->k.wrap n=n)(a b:Nat)(f:a < 2 ^ j)(g:b < 2 ^ j):bits .xor k a b=((a ^^^ b:Nat):Int):=by
 have i:2 ^ j<=2 ^ k.bits:=S8 (by decide) l;have d:a % 2 ^ k.bits=a:=SV (SA f i);have e:b % 2 ^ k.bits=b:=SV (SA g i);have c:∀n:Nat,n < 2 ^ j->((n:Nat):Int) < 2 ^ j:=λn h=>by exact_mod_cast h
 simp only [bits,BitVec.ofInt_natCast,BitVec.toNat_xor,BitVec.toNat_ofNat,d,e];exact m _ (Int.natCast_nonneg _) (c _ (UO f g))
theorem Cz(n:Int)(a:0<=n)(b:n < 2 ^ 32):IntKind.i64.wrap n=n:=by rw [QY];omega
theorem LP(n:Int):IntKind.u32.wrap n=n % 4294967296:=by simp [IntKind.wrap,IntKind.bits,IntKind.signed]
theorem pD(n:Int)(a:0<=n)(b:n < 2 ^ 32):IntKind.u32.wrap n=n:=by rw [LP];omega
theorem EY{D:Nat}(h:D < 2 ^ 32):wrap64 ((D:Int) / 2)=((D / 2:Nat):Int):=by unfold wrap64;omega
theorem Mc{b j D:Nat}(f:b < 256):((wrap64 (b:Int) / 2 ^ j).tmod 2 != (D:Int) % 2)= !decide (b / 2 ^ j % 2=D % 2):=by
 have a:wrap64 (b:Int)=(b:Int):=by unfold wrap64;omega
 have c:((b:Int) / 2 ^ j)=((b / 2 ^ j:Nat):Int):=by simp
 rw [a,c,Int.tmod_eq_emod_of_nonneg (Int.natCast_nonneg _)];have d:(((b / 2 ^ j:Nat):Int) % 2)=((b / 2 ^ j % 2:Nat):Int):=by omega
 have e:((D:Int) % 2)=((D % 2:Nat):Int):=by omega
 rw [d,e,Ri];simp only [bne_iff_ne,ne_eq,Rm,decide_eq_false_iff_not];omega
theorem zQ(s:QL)(w:QI)(t:s.size<=Y7):Y8 Ys 114 #[T s] w λe u=>e=YX (I J (po s.data.toList))/\w=u:=by
 unfold maxLen at t;go_enter func114,ntmps114;go_wp2_with fail
 go_loop [3,4] (λc i=>∃k C:Nat,k<=s.size/\i=I J k/\c=I J C/\H (C < 2 ^ 32)/\H (C=BC 4294967295 (s.data.toList.take k))) (λ_ i=>s.size - (Y9 i).toNat)
 case atStart=>exact ⟨0,4294967295,QS _,rfl,rfl,K (by decide),rfl⟩
 case round=>
  obtain ⟨k,C,y,rfl,rfl,g,f⟩:=hrel
  by_cases n:k < s.size
  .go_wp2_with fail
   go_loop [3,5] (λc i=>∃j D:Nat,j<=8/\i=I J j/\c=I J D/\H (D=js j C s[k].toNat)) (λ_ i=>8 - (Y9 i).toNat)
   case atStart=>exact ⟨0,C,by omega,rfl,rfl,rfl⟩
   case round=>
    obtain ⟨j,D,x,rfl,rfl,d⟩:=hrel;have a:H (D < 2 ^ 32):=K (by rw [d.out];exact zJ j g.out);have HT:=K (Mc (b:=s[k].toNat) (j:=j) (D:=D) s[k].toNat_lt)
    by_cases r:j < 8
    .go_wp2_with fail
     .rename_i h
      rw [HT.out] at h;have o:¬(s[k].toNat / 2 ^ j % 2=D % 2):=by simpa using h
      refine ⟨⟨j+1,my D (s[k].toNat / 2 ^ j),by omega,by go_num,?_,K (by rw [d.out,nI])⟩,by simp [Y9];omega⟩
      rw [EY a.out,show (3988292384:Int)=((Li:Nat):Int) from rfl,lh J 32 (by decide) Cz _ _ (by have:=a.out;omega) (by decide)];unfold my;rw [if_neg o]
     rename_i h
     rw [HT.out] at h;have q:s[k].toNat / 2 ^ j % 2=D % 2:=by simpa using h
     refine ⟨⟨j+1,my D (s[k].toNat / 2 ^ j),by omega,by go_num,?_,K (by rw [d.out,nI])⟩,by simp [Y9];omega⟩
     rw [EY a.out];unfold my;rw [if_pos q]
    have l:j=8:=by omega
    subst l;go_wp2_with fail
    refine ⟨⟨k+1,D,by omega,by go_num,rfl,a,K ?_⟩,by simp [Y9];omega⟩
    rw [d.out,f.out,v8 _ _ k (by simpa using n)];rfl
  have m:k=s.size:=by omega
  subst m;have v:=g.out
  have p:po s.data.toList=4294967295 - C:=by
   unfold po;rw [f.out,SQ (by simp)]
  clear g f;go_wp2_with fail
  go_ret;refine ⟨?_,rfl⟩;show YX (I J (4294967295 - (C:Int)))=_;rw [show (4294967295:Int) - (C:Int)=((4294967295 - C:Nat):Int) by omega]
def bs(l:QF):QL:=⟨l.toArray⟩
theorem ao(l:QF):(bs l).data.toList=l:=rfl
theorem aj(l:QF):(bs l).size=l.length:=by simp [bs,ByteArray.size]
theorem Bu(s:QL):bs s.data.toList=s:=rfl
theorem bR(l:QF)(a b:Nat):(bs l).extract a b=bs ((l.take b).drop a):=by
 have h:((bs l).extract a b).data.toList=(l.take b).drop a:=by
  rw [Su];simp [ao,List.drop_take]
 rw [<-h,Bu]
theorem aQ(a b:QF):bs a++bs b=bs (a++b):=by
 have h:(bs a++bs b).data.toList=a++b:=by simp [bs]
 rw [<-h,Bu]
theorem ot(l:QF)(k:Nat)(h:k < (bs l).size):(bs l)[k]=l[k]'(by rw [<-aj];exact h):=by
 simp [bs,ByteArray.getElem_eq_getElem_data]
def be(l:QF):Nat:=l.foldl (λn b=>256 * n+b.toNat) 0
theorem uS(l:QF)(b:UInt8):be (l++[b])=256 * be l+b.toNat:=by
 unfold be;rw [UP];rfl
theorem Js(l:QF)(k:Nat)(h:k < l.length):be (l.take (k+1))=256 * be (l.take k)+l[k].toNat:=by
 rw [QV h,uS]
theorem Gq{P:QF->Prop}(a:P [])(c:∀l b,P l->P (l++[b]))(l:QF):P l:=by
 have h:∀r:QF,P r.reverse:=λr=>by
  induction r with
  | nil=>exact a
  | cons b r ih=>rw [Ti];exact c _ _ ih
 have:=h l.reverse
 rwa [List.reverse_reverse] at this
theorem Bs(l:QF):be l < 256 ^ l.length:=by
 refine Gq (P:=λl=>be l < 256 ^ l.length) (by decide) (λl b a=>?_) l;rw [uS,RI,V2,Vu];have:=b.toNat_lt;omega
def aG:Nat->Nat->QF
 | 0,_=>[]
 | k+1,n=>aG k (n / 256)++[UInt8.ofNat n]
theorem aY:∀(k n:Nat),(aG k n).length=k
 | 0,_=>rfl
 | k+1,n=>by rw [aG,RI,aY k];rfl
theorem nf:∀(k n:Nat),be (aG k n)=n % 256 ^ k
 | 0,n=>by simp [aG,be,Nat.mod_one]
 | k+1,n=>by
  rw [aG,uS,nf k,TA,UN (n:=k)];rw [Nat.mod_mul (x:=n) (a:=256) (b:=256 ^ k)];omega
theorem vP:∀(l:QF),aG l.length (be l)=l:=by
 intro l;refine Gq (P:=λl=>aG l.length (be l)=l) rfl (λl b a=>?_) l;rw [RI,V2,aG,uS];have h:=b.toNat_lt;have e:(256 * be l+b.toNat) / 256=be l:=by omega
 rw [e,a]
 congr 2
 apply Tz.1;rw [TA];omega
def Rd(w:QI)(b:Nat)(l:QF):Prop:=w.heap[b]? =S (.cells #[T (bs l)] 201 (0,0))
def df(w w':QI):Prop:=w'.os=w.os/\w'.tape=w.tape/\w'.output=w.output
theorem df.refl(w:QI):df w w:=⟨rfl,rfl,rfl⟩
theorem df.trans{a b c:QI}(h:df a b)(d:df b c):df a c:=⟨d.1.trans h.1,d.2.1.trans h.2.1,d.2.2.trans h.2.2⟩
theorem df.xF{B:Nat}{w a:QI}(h:Y6 B w a):df w a:=⟨h.os,h.tape,h.output⟩
theorem mj:∀(n:Nat) (w:QI),df w (w.drewN n)
 | 0,w=>df.refl w
 | n+1,w=>(show df w w.drew from ⟨rfl,rfl,rfl⟩).trans (mj n w.drew)
structure aA(b:Nat)(w w':QI):Prop where
 size:w'.heap.size=w.heap.size
 block:∀c:Nat,c≠b->w'.heap[c]? =w.heap[c]?
 still:df w w'
theorem aA.refl(b:Nat)(w:QI):aA b w w:=⟨rfl,λ_ _=>rfl,df.refl w⟩
theorem aA.trans{b:Nat}{w f a:QI}(h:aA b w f)(d:aA b f a):aA b w a:=⟨d.1.trans h.1,λc e=>(d.2 c e).trans (h.2 c e),h.3.trans d.3⟩
theorem aA.drewN{b:Nat}{w a:QI}(h:aA b w a)(n:Nat):aA b w (a.drewN n):=⟨by simpa using h.1,λc d=>by simpa using h.2 c d,h.3.trans (mj n a)⟩
theorem aA.setCell{b i:Nat}{w a:QI}(h:aA b w a)(v:QJ):aA b w (a.setCell ⟨b,i,N⟩ v):=
 ⟨by simpa using h.1,λc d=>(heap_setCell_other a ⟨b,i,N⟩ c v d).trans (h.2 c d),h.3.trans ⟨rfl,rfl,rfl⟩⟩
theorem aA.below{b B:Nat}{w a:QI}(h:aA b w a)(c:B<=b):Y6 B w a:=⟨h.3.1,h.3.2.1,h.3.2.2,by rw [h.1];exact QR _,λk d=>h.2 k (by omega)⟩
theorem Rd.cell{w:QI}{b:Nat}{l:QF}(h:Rd w b l):w.cell? ⟨b,0,N⟩=S (T (bs l))/\w.frozen? ⟨b,0,N⟩=F:=
 ⟨Q3 h _,RJ h 0⟩
theorem Rd.set{w:QI}{b:Nat}{l:QF}(h:Rd w b l)(r:QF):Rd (w.setCell ⟨b,0,N⟩ (T (bs r))) b r:=by
 have:=Ro w b 0 _ _ (T (bs r)) h;exact this
theorem Rd.drewN{w:QI}{b:Nat}{l:QF}(h:Rd w b l)(n:Nat):Rd (w.drewN n) b l:=by unfold Rd at h ⊢;simpa using h
theorem kq(b n:Nat)(l:QF)(w:QI)(h:Rd w b l)(_hl:l.length<=Y7)(_hn:n<=Y7):Y8 Ys 113 #[YV (S ⟨b,0,N⟩),I J n] w λe c=>e=YX (T (bs (l.take n)))/\Rd c b (l.drop n)/\aA b w c:=by
 unfold maxLen at _hl _hn;obtain ⟨i,j⟩:=h.cell;have k:=aj l;have a:=K h;clear h
 by_cases g:n<=l.length
 .go_enter func113,ntmps113;go_wp2_with fail
  simp only [bR,SY,QZ];go_ret;exact ⟨rfl,a.out.set _,(aA.refl b w).setCell _⟩
 have d:l.take n=l:=SQ (by omega);have f:l.drop n=[]:=List.drop_eq_nil_of_le (by omega);rw [d,f];go_enter func113,ntmps113;go_wp2_with fail
 simp only [bR,SY,QZ];go_ret;exact ⟨rfl,a.out.set _,(aA.refl b w).setCell _⟩
theorem Ai(n:Int)(h: -9223372036854775808<=n/\n<=9223372036854775807):wrap64 n=n:=by unfold wrap64;omega
theorem lg(l:QF):be (l.take 1) < 256:=by
 cases l with
 | nil=>decide
 | cons b l=>
  have:=b.toNat_lt;show 256 * 0+b.toNat < 256;omega
theorem jr{l:QF}(h:l.length<=4):be l < 4294967296:=by
 have a:=Bs l;have b:256 ^ l.length<=256 ^ 4:=S8 (by decide) h;have c:256 ^ 4=4294967296:=by decide
 omega
theorem dr(b n:Nat)(l:QF)(w:QI)(h:Rd w b l)(u:l.length<=Y7)(A:n<=4):Y8 Ys 112 #[YV (S ⟨b,0,N⟩),I J n] w λe p=>e=YX (I J (be (l.take n)))/\Rd p b (l.drop n)/\aA b w p:=by
 go_enter func112,ntmps112;go_wp2_with fail
 refine (kq b n l w h u (by unfold maxLen;omega)).mono ?_;rintro e D ⟨rfl,j,m⟩;have q:=K j;have r:=K m;clear h j m;obtain ⟨t,o⟩:=QE (l.take n);have C:=aj t;have v:t.length<=4:=by rw [<-o,Sm];omega
 rw [o];go_wp2_with fail
 go_loop [6,7] (λn i=>∃k a:Nat,k<=t.length/\i=I J k/\n=I J a/\H (a=be (t.take k))) (λ_ i=>t.length - (Y9 i).toNat)
 case atStart=>exact ⟨0,0,QS _,rfl,rfl,rfl⟩
 case round=>
  obtain ⟨k,a,z,rfl,rfl,d⟩:=hrel
  have s:H (a < 4294967296):=K (by
   rw [d.out]
   exact jr (by rw [Sm];omega))
  by_cases g:k < t.length
  .have c:k < (bs t).size:=by omega
   go_wp2_with fail
   refine ⟨⟨k+1,be (t.take (k+1)),by omega,by go_num,?_,rfl⟩,by simp [Y9];omega⟩
   have y:=s.out;have B:=((bs t)[k]).toNat_lt;rw [Js t k g, <-ot t k c, <-d.out];refine congrArg (I J) ?_;rw [Ai (256 * (a:Int)) (by omega),Ai (((bs t)[k]).toNat:Int) (by omega),Ai _ (by omega)];simp
  have f:k=t.length:=by omega
  subst f;rw [QZ] at d;go_wp2_with fail
  go_ret;exact ⟨congrArg (λx:Nat=>YX (I J (x:Int))) d.out,q.out,r.out⟩
theorem zA(b:Nat)(l:QF)(w:QI)(h:Rd w b l)(y:l.length<=Y7):Y8 Ys 183 #[YV (S ⟨b,0,N⟩)] w λe s=>e=YX (T (bs ((l.drop 1).take (be (l.take 1)))))/\Rd s b ((l.drop 1).drop (be (l.take 1)))/\aA b w s:=by
 have m:H (be (l.take 1) < 256):=K (lg l);have d:(l.drop 1).length<=Y7:=by rw [List.length_drop];omega
 obtain ⟨r,g⟩:=QE (l.drop 1);obtain ⟨a,f⟩:=QE (be (l.take 1));have c:=dr b 1 l w h y (by decide);rw [g,f] at c;rw [g,f];rw [g] at d;rw [f] at m;clear h g f;go_enter func183,ntmps183;go_wp2_with fail
 refine c.mono ?_;rintro e z ⟨rfl,n,o⟩;have j:=K n;have k:=K o;clear n o c;go_wp2_with fail
 refine (kq b a r z j.out d (by have:=m.out;unfold maxLen;omega)).mono ?_;rintro e A ⟨rfl,p,q⟩;have u:=K p;have v:=K (k.out.trans q);obtain ⟨t,i⟩:=QE (r.take a);rw [i];have HT:=K i;clear p q k j i;go_wp2_with fail
 go_ret;exact ⟨congrArg (λx=>YX (T (bs x))) HT.out.symm,u.out,v.out⟩
def kB(l:QF)(w:QI)(e:Zb)(w':QI):Prop:=e=YX (YW (kS l))/\∃n,w'=w.drewN n
theorem kB.mk{l:QF}{w:QI}{e:Zb}{a:QI}(b:Bool)(d:e=YX (YW b))(c:kS l=b)(n:Nat)(f:a=w.drewN n):kB l w e a:=⟨by rw [d,c],n,f⟩
def PO(s m:QJ):Nat:=match s,m with | .string t,YW YT=>t.size+1 | _,_=>0
def PA(l:QF)(w:QI)(s m:QJ)(w':QI):Prop:=
 ∃(t:QL) (more:Bool),s=T t/\m=YW more/\t.size<=40/\(more=YT->(bV 46 l).all jl=(bV 46 t.data.toList).all jl)/\(more=F->(bV 46 l).all jl=YT)/\∃n,w'=w.drewN n
theorem ag(s:QL):s.data.toList.length=s.size:=by simp
theorem iZ(s:QL)(k:Nat)(h:k < s.size):s.data.toList.getD k 0=s[k]:=by
 rw [Q5,Hs s k h];rfl
theorem bS(s:QL)(w:QI)(hs:s.size<=Y7):Y8 Ys 110 #[T s] w (kB s.data.toList w):=by
 unfold maxLen at hs
 by_cases Y:s.size=0
 .have G:s=⟨#[]⟩:=by
   obtain ⟨⟨l⟩⟩:=s
   cases l with
   | nil=>rfl
   | cons a r=>exact absurd Y (by show ¬(List.length (a::r)=0);simp)
  subst G;go_enter WO,ntmps110;go_wp2
  go_ret;exact kB.mk F rfl rfl 0 rfl
 have he:s.toList.isEmpty=F:=by
  rw [SF];obtain ⟨⟨l⟩⟩:=s
  cases l with
  | nil=>exact absurd rfl Y
  | cons a r=>rfl
 by_cases a1:40 < s.size
 .go_enter WO,ntmps110;go_wp2
  go_ret;exact kB.mk F rfl (by simp [kS];intro _ h;omega) 0 rfl
 have Z:decide (40 < (s.size:Int))=F:=by simp;omega
 have E:H (kS s.data.toList=(bV 46 s.data.toList).all jl):=by
  show _=_;rw [SF] at he;simp [kS,he];omega
 go_enter WO,ntmps110;go_wp2
 go_loopw [0,3] (λt m C=>PA s.data.toList w t m C) (λt m _=>PO t m)
 case atStart=>exact ⟨s,YT,rfl,rfl,by omega,λ_=>rfl,(λh=>by cases h),0,rfl⟩
 case round=>
  obtain ⟨t,u,rfl,rfl,ht,M,O,n,rfl⟩:=hrel
  cases u
  case false=>
   have H2:H ((bV 46 s.data.toList).all jl=YT):=O rfl;clear M O;go_wp2
   go_ret;exact kB.mk YT rfl (by rw [E.out,H2.out]) n rfl
  have W:H ((bV 46 s.data.toList).all jl=(bV 46 t.data.toList).all jl):=M rfl;clear M O;have d:H (((46:UInt8).toNat:Int)=46):=rfl;go_wp2_with fail
  refine (l9 t 46 46 d _ (by unfold maxLen;omega)).mono ?_;rintro e C ⟨x,y,f,rfl,hc,n',rfl⟩;have D:=K hc;clear hc d;have b:=nj 46 _ _ _ _ D.out
  have X:H (kS s.data.toList=(jl x.data.toList && (!f || (bV 46 y.data.toList).all jl))):=by
   show _=_;rw [E.out,W.out,Mm 46 jl _ _ _ _ D.out]
  have a0:x.size<=40:=by have:=b.1;rw [ag,ag] at this;omega
  have q:y.size<=40:=by have:=b.2.1;rw [ag,ag] at this;omega
  have HY:H (f=YT->y.size < t.size):=by
   show _->_;intro h;have:=b.2.2 h;rw [ag,ag] at this;exact this
  have c:H (jl x.data.toList=F->kS s.data.toList=F):=by
   show _->_;intro h;rw [X.out,h];rfl
  clear b D W
  by_cases R:1<=x.size/\x.size<=20
  .obtain ⟨U,V⟩:=R;have g:H (x.data.toList.getD 0 0=x[0]):=iZ x 0 (by omega)
   have o:H (x.data.toList.getD (x.data.toList.length - 1) 0=x[x.size - 1]):=by
    show _=_;rw [ag];exact iZ x (x.size - 1) (by omega)
   have a2:decide ((x.size:Int) < 1)=F:=by simp;omega
   have a3:decide (20 < (x.size:Int))=F:=by simp;omega
   by_cases A:((x[0].toNat:Int) == 45)=F/\((x[x.size - 1].toNat:Int) == 45)=F
   .obtain ⟨P,Q⟩:=A;go_wp2_with fail
    go_loop [6] (λi=>∃k:Nat,k<=x.size/\i=I J k/\H (∀j:Nat,j < k->Nj (x.data.toList.getD j 0)=YT)) (λi=>x.size - (Y9 i).toNat)
    case atStart=>exact ⟨0,QS _,rfl,λj hj=>by omega⟩
    case round=>
     obtain ⟨k,hk,rfl,z⟩:=hrel
     by_cases p:k < x.size
     .have B:H (x.data.toList.getD k 0=x[k]):=iZ x k p;go_wp2_with (first | (go_at_call 181;refine (de _ _).mono ?_;rintro e C ⟨rfl,rfl⟩) | (go_at_call 182;refine (dv _ _).mono ?_;rintro e C ⟨rfl,rfl⟩))
      .exact ⟨⟨k+1,by omega,by go_num,ma z.out B.out (Pa ‹_›)⟩,by simp [Y9];omega⟩
      .exact ⟨⟨k+1,by omega,by go_num,ma z.out B.out (OZ ‹_›)⟩,by simp [Y9];omega⟩
      .go_ret;exact kB.mk F rfl (c.out (OK (by rw [ag];exact p) B.out (PZ ‹_› ‹_› ‹_›))) _ rfl
      exact ⟨⟨k+1,by omega,by go_num,ma z.out B.out (Nk ‹_›)⟩,by simp [Y9];omega⟩
     have HL:H (jl x.data.toList=YT):=
      OL (by rw [ag];exact U) (by rw [ag];exact V) g.out o.out P Q (λj hj=>z.out j (by rw [ag] at hj;omega))
     have HT:H ((bV 46 s.data.toList).all jl=(!f || (bV 46 y.data.toList).all jl)):=by
      show _=_;rw [<-E.out,X.out,HL.out];rfl
     go_wp2
     refine ⟨⟨y,f,rfl,rfl,q,λh=>by rw [HT.out,h];rfl,λh=>by rw [HT.out,h];rfl,_,rfl⟩,?_⟩
     have:=HY.out
     cases f
     case false=>simp [PO]
     simp [PO];exact this rfl
   have v:H (kS s.data.toList=F):=c.out (KL g.out o.out A);have HD:=K A;clear A
   cases G:((x[0].toNat:Int) == 45)
   case true=>
    go_wp2_with fail
    all_goals (go_ret;exact kB.mk F rfl v.out _ rfl)
   cases e1:((x[x.size - 1].toNat:Int) == 45)
   case true=>
    go_wp2_with fail
    all_goals (go_ret;exact kB.mk F rfl v.out _ rfl)
   exact absurd ⟨G,e1⟩ HD.out
  have v:H (kS s.data.toList=F):=c.out (Fb (by rw [ag];exact R));have hb:(decide ((x.size:Int) < 1) || decide (20 < (x.size:Int)))=YT:=by simp;omega
  clear R;go_wp2_with fail
  all_goals (go_ret;exact kB.mk F rfl v.out _ rfl)
def mZ(l:QF)(B k:Nat)(w w':QI):Prop:=
 Y6 B w w'/\B < w'.heap.size/\(∀j:Nat,j < l.length->w'.cell? ⟨B,j,N⟩=S (I .u8 (((if j < k then Lib.lowerB (l.getD j 0) else l.getD j 0).toNat:Nat):Int)))/\∀j:Nat,j < l.length->w'.frozen? ⟨B,j,N⟩=F
theorem Bh(s:QL)(w:QI):∃b d,(convert 9 100 (T s)).run Ys w= .ok (L (S ⟨w.heap.size,0,N⟩) s.size b) d/\mZ s.data.toList w.heap.size 0 w d:=by
 refine ⟨_,_,run_bytes_of_string w 9 100 5 s underlying9 underlying100 underlying5,?_,?_,?_,?_⟩
 .exact (Below.refl _ _).drew.alloc (by simp) _
 .simp
 .intro j a;have c:=World.cell?_alloc_mark w.drew (bytesRow s (grownCap w s.size 0 5)) 5 ((bytesRow s (grownCap w s.size 0 5)).size,(bytesRow s (grownCap w s.size 0 5)).size+1) j;refine c.trans ?_;rw [bytesRow_at s _ j (by simpa using a)];rw [if_neg (by omega),Q5,Re a];rfl
 intro j a;have c:=World.frozen?_alloc_mark w.drew (bytesRow s (grownCap w s.size 0 5)) 5 (bytesRow s (grownCap w s.size 0 5)).size ((bytesRow s (grownCap w s.size 0 5)).size+1) j;refine c.trans ?_
 have:j < (bytesRow s (grownCap w s.size 0 5)).size:=by
  have:j < s.data.size:=by simpa using a
  unfold bytesRow;rw [Array.size_append,Array.size_map];omega
 rw [Bool.and_eq_false_iff]
 left
 simp;omega
theorem DR{l:QF}{B k:Nat}{w b:QI}(h:mZ l B k w b)(f:k < l.length)(c:Lib.lowerB (l.getD k 0)=l.getD k 0):mZ l B (k+1) w b:=by
 refine ⟨h.1,h.2.1,λj d=>?_,h.2.2.2⟩;rw [h.2.2.1 j d]
 by_cases e:j=k
 .subst e;rw [if_neg (by omega),if_pos (by omega),c]
 by_cases a:j < k
 .rw [if_pos a,if_pos (by omega)]
 rw [if_neg a,if_neg (by omega)]
theorem Gp{l:QF}{B k:Nat}{w c:QI}(h:mZ l B k w c)(f:k < l.length)(v:Int)(d:((Lib.lowerB (l.getD k 0)).toNat:Int)=v):mZ l B (k+1) w (c.setCell ⟨B,k,N⟩ (I .u8 v)):=by
 refine ⟨h.1.setCell (QR _) _,by simpa using h.2.1,λj a=>?_,λj a=>by simpa using h.2.2.2 j a⟩
 by_cases e:j=k
 .subst e;rw [World.cell?_setCell_same _ _ _ (h.2.2.1 j a),if_pos (by omega),d]
 rw [World.cell?_setCell_other _ _ _ _ (by intro h;injection h with _ h;exact e h.symm),h.2.2.1 j a]
 by_cases b:j < k
 .rw [if_pos b,if_pos (by omega)]
 rw [if_neg b,if_neg (by omega)]
theorem MR{c:UInt8}(h:¬(65<=(c.toNat:Int)/\(c.toNat:Int)<=90)):Lib.lowerB c=c:=by
 unfold Lib.lowerB Lib.isUpperB;rw [if_neg];simp only [Rk,decide_eq_true_eq,Uq];intro a;apply h;have b:(65:UInt8).toNat=65:=rfl;have d:(90:UInt8).toNat=90:=rfl;omega
theorem KV{c:UInt8}(h:65<=(c.toNat:Int)/\(c.toNat:Int)<=90):((Lib.lowerB c).toNat:Int)=(c.toNat:Int)+32:=by
 unfold Lib.lowerB Lib.isUpperB;have a:(65:UInt8).toNat=65:=rfl;have b:(90:UInt8).toNat=90:=rfl;rw [if_pos]
 .rw [UInt8.toNat_add];have:(32:UInt8).toNat=32:=rfl;omega
 simp only [Rk,decide_eq_true_eq,Uq];omega
theorem ib(b:QI)(B a n:Nat)(l:QF)(f:l.length=n)(e:∀(j:Nat),j < n->b.cell? ⟨B,j,N⟩=S (I .u8 ((l.getD j 0).toNat:Int))):(convert 100 9 (L (S ⟨B,0,N⟩) n a)).run Ys b= .ok (T ⟨l.toArray⟩) b:=by
 subst f;refine run_convert_bytes_back (P:=Ys) b 100 9 5 ⟨B,0,N⟩ a l underlying100 underlying5 underlying9 (λj c=>?_)
 have d:(Addr.add ⟨B,0,N⟩ j)=⟨B,j,N⟩:=by
  unfold Addr.add;simp <;> omega
 rw [d,e j c,Q5,Re c];rfl
theorem DQ(s:QL)(b:Nat)(w c:QI)(B:Nat)(h:mZ s.data.toList B s.size w c):(convert 100 9 (L (S ⟨B,0,N⟩) s.size b)).run Ys c= .ok (T ⟨(Lib.toLowerA s.data.toList).toArray⟩) c:=by
 refine ib c B b s.size (Lib.toLowerA s.data.toList) (by simp [Lib.toLowerA]) (λj e=>?_);have a:j < s.data.toList.length:=by rw [ag];exact e
 have d:=h.2.2.1 j a;rw [if_pos e] at d;rw [d,Q5,Re a,Lib.toLowerA,Q5,List.getElem?_map,Re a];rfl
theorem Cn(s:QL)(w:QI)(z:s.size<=Y7):Y8 Ys 301 #[T s] w λe o=>e=YX (T ⟨(Lib.toLowerA s.data.toList).toArray⟩)/\Y6 w.heap.size w o:=by
 unfold maxLen at z;obtain ⟨g,C,d,r⟩:=Bh s w;have t:=K r;clear r;go_enter func301,ntmps301;go_wp2
 clear d;go_loopw [4] (λi o=>∃k:Nat,k<=s.size/\i=I J k/\mZ s.data.toList w.heap.size k w o) (λi _=>s.size - (Y9 i).toNat)
 case atStart=>exact ⟨0,QS _,rfl,t.out⟩
 case round=>
  obtain ⟨k,D,rfl,b⟩:=hrel
  by_cases m:k < s.size
  .have a:k < s.data.toList.length:=by rw [ag];exact m
   obtain ⟨c,j⟩:=QE (s.data.toList.getD k 0);have l:=b.2.2.1 k a;rw [if_neg (Nat.lt_irrefl k),j] at l;have y:=b.2.2.2 k a;have q:=K b;have p:=K j;clear b j
   by_cases n:65<=(c.toNat:Int)/\(c.toNat:Int)<=90
   .have x:=K n;obtain ⟨A,B⟩:=n;go_wp2
    go_roundw
    case rel=>exact ⟨k+1,by omega,by go_num,Gp q.out a _ (by rw [p.out,KV x.out])⟩
    case measure=>simp [Y9];omega
   have v:H (Lib.lowerB (s.data.toList.getD k 0)=s.data.toList.getD k 0):=by
    show _=_;rw [p.out,MR n]
   go_wp2
   all_goals
    go_roundw
    case rel=>exact ⟨k+1,by omega,by go_num,DR q.out a v.out⟩
    case measure=>simp [Y9];omega
  have f:k=s.size:=by omega
  rw [f] at b;have h:=DQ s g w _ w.heap.size b;clear f;have u:=K b.1;clear b;go_wp2
  go_ret;exact ⟨rfl,u.out⟩
theorem Dt{P:Program}{t e:TypeId}{z:QJ}{d a:Nat}(k:P.underlying t=S (.slice e))(b:(P.info? e).map (λi=>(i.zero,i.size,i.bytes))=S (S z,d,a))(n:Nat)(g:a * n<=281474976710656)(m:n<=140737488351232)(w:QI):(Instr.makeSlice t (I J (n:Int)) (I J (n:Int))).run P w= .ok (L (S ⟨w.heap.size,0,N⟩) n n) (w.alloc (.cells (madeCells z.cells (n * d)) e)):=by
 obtain ⟨i,h,l,j,c⟩:=info_parts b
 have:=run_make (P:=P) w t e i z k h l J J (n:Int) (n:Int) (by omega) (Int.le_refl _) (by
   have f:((a:Int) * (n:Int))=((a * n:Nat):Int):=by rw [Int.natCast_mul]
   rw [c,f]
   generalize a * n=q at g
   omega) (by omega)
 rw [show ((n:Int)).toNat=n by omega,j] at this
 exact this
theorem Fj(z:QJ)(h:z.cells=#[z])(n:Nat):(madeCells z.cells (n * 1)).toList=List.replicate n z:=by
 rw [h,Vf];apply List.ext_getElem?;intro i
 by_cases a:i < n
 .simp [madeCells,a,Nat.mod_one]
 simp [madeCells,a]
theorem qQ:∀(j n:Nat),aG (j+1) n=UInt8.ofNat (n / 256 ^ j)::aG j n
 | 0,n=>by simp [aG]
 | j+1,n=>by
  rw [aG,qQ j,aG,UM, <-UN];rfl
theorem MC:(prog.info? 5).map (λi=>(i.zero,i.size,i.bytes))=S (S (I .u8 0),1,1):=by kernel_rfl
def pa(w:QI)(b m j n:Nat):Prop:=∃A:Array QJ,w.heap[b]? =S (.cells A 5 (0,0))/\A.toList=List.replicate (m - j) (I .u8 0)++Lib.byteCells (aG j n)
theorem pa.size{m j n:Nat}{A:Array QJ}(a:j<=m)(h:A.toList=List.replicate (m - j) (I .u8 0)++Lib.byteCells (aG j n)):A.size=m:=by
 have:=congrArg List.length h;rw [RI,List.length_replicate,Lib.byteCells_length,aY,Array.length_toList] at this;omega
theorem pa.set{w:QI}{b m j n c a:Nat}(h:pa w b m j n)(o:j < m)(f:a=m - (j+1))(g:c=n / 256 ^ j):pa (w.setCell ⟨b,a,N⟩ (I .u8 ((c:Int) % 256))) b m (j+1) n:=by
 have d:((c:Int) % 256)=(n:Int) / 256 ^ j % 256:=by rw [g];simp
 rw [d,f];clear d g f;obtain ⟨A,i,k⟩:=h;refine ⟨A.setIfInBounds (m - (j+1)) (I .u8 ((n:Int) / 256 ^ j % 256)),Ro w b _ A _ _ i,?_⟩
 have l:((n:Int) / 256 ^ j % 256)=((UInt8.ofNat (n / 256 ^ j)).toNat:Int):=by
  rw [TA,show ((n:Int) / 256 ^ j)=((n / 256 ^ j:Nat):Int) by simp]
  omega
 rw [Array.toList_setIfInBounds,k,l,qQ]
 have e:List.replicate (m - j) (I .u8 0)=List.replicate (m - (j+1)) (I .u8 0)++[I .u8 0]:=by
  rw [show m - j=(m - (j+1))+1 by omega,List.replicate_succ']
 rw [e,Sq,List.set_append_right _ _ (by simp)];simp [Lib.byteCells]
theorem du(n m:Nat)(w:QI)(_hn:n<=Y7)(Q:m<=4):Y8 Ys 77 #[I J n,I J m] w λe h=>e=YX (T (bs (aG m n)))/\Y6 w.heap.size w h:=by
 unfold maxLen at _hn;have G:=Dt (P:=Ys) underlying100 MC m (by omega) (by omega) w;go_enter func77,ntmps77;go_wp2_with fail
 go_loopw [0,6] (λM i h=>∃j b:Nat,j<=m/\M=I J b/\H (b=n / 256 ^ j)/\i=I J ((m:Int) - j - 1)/\H (pa h w.heap.size m j n)/\H (Y6 w.heap.size w h)) (λ_ i _=>(Y9 i+1).toNat)
 case atStart=>
  refine ⟨0,n,QS _,rfl,K (by simp),by simp,K ⟨_,heap_alloc_new w _,?_⟩,K ((Below.refl _ _).alloc (QR _) _)⟩
  have f:=Fj (I .u8 0) rfl m;rw [Vf] at f;refine (show (madeCells #[I .u8 0] m).toList=_ from f).trans ?_;simp [aG,Lib.byteCells]
 case round=>
  obtain ⟨j,b,E,rfl,l,rfl,g,u⟩:=hrel;have C:b<=n:=by rw [l.out];exact Nat.div_le_self _ _
  by_cases s:j < m
  .obtain ⟨a,y⟩:∃a:Nat,a=m - (j+1):=⟨_,rfl⟩;have c:(m:Int) - j - 1=(a:Int):=by omega
   have o:a < m:=by omega
   rw [c]
   have O:wr.frozen? ⟨w.heap.size,a,N⟩=F:=by
    obtain ⟨A,d,_⟩:=g.out;exact RJ d a
   have x:∃v,wr.cell? ⟨w.heap.size,a,N⟩=S v:=by
    obtain ⟨A,d,t⟩:=g.out;exact ⟨_,by rw [Q3 d,Array.getElem?_eq_getElem (by rw [pa.size E t];exact o)]⟩
   obtain ⟨v,x⟩:=x;have B:=K y;have k:=K c;clear y c;go_wp2_with fail
   refine ⟨⟨j+1,b / 256,by omega,by simp,K ?_,congrArg (I J) (by have:=k.out;omega),K (g.out.set s B.out l.out),K (u.out.setCell (QR _) _)⟩,by simp [Y9]⟩
   rw [l.out,UM, <-Vu]
  have r:j=m:=by omega
  subst r;have z:¬((0:Int)<=(j:Int) - j - 1):=by omega
  have p:(convert 100 9 (L (S ⟨w.heap.size,0,N⟩) j j)).run Ys wr= .ok (T (bs (aG j n))) wr:=by
   obtain ⟨A,d,t⟩:=g.out;refine ib wr w.heap.size j j (aG j n) (aY _ _) (λi D=>?_);rw [Q3 d, <-Array.getElem?_toList,t,Nat.sub_self];have q:i < (aG j n).length:=by rw [aY];exact D
   simp [Lib.byteCells,Q5,q]
  go_wp2_with fail
  go_ret;exact ⟨rfl,u.out⟩
theorem JF{a b:Int}(h:a=b):YX (I .u32 a)=YX (I .u32 b):=by rw [h]
theorem uL(w:QI):Y8 Ys 215 #[I .u32 545503469] w λe a=>e=YX (I .u32 3988292384)/\w=a:=by
 go_enter func215,ntmps215;go_wp2_with fail
 go_ret;exact ⟨JF (by decide+kernel),rfl⟩
theorem IZ(w:QI):Y8 Ys 150 #[I .u32 79764919] w λe a=>e=YX (I .u32 3988292384)/\w=a:=by
 have b:∀(E:Int) (Q:Zb->QI->Prop),E=545503469->(∀e a,e=YX (I .u32 3988292384)/\w=a->Q e a)->Y8 Ys 215 #[I .u32 E] w Q:=λE Q c h=>by
  subst c;exact (uL w).mono h
 go_enter func150,ntmps150;go_wp2_with fail
 refine b _ _ (by decide+kernel) ?_;rintro e a ⟨rfl,rfl⟩;go_wp2_with fail
 go_ret;exact ⟨rfl,rfl⟩
theorem Hd{D:Nat}(h:D < 2 ^ 32):bits .xor .u32 ((D:Int) / 2) (bits .and .u32 (D:Int) 1 * 3988292384 % 4294967296)=((ow D:Nat):Int):=by
 have a:bits .and .u32 (D:Int) 1=((D % 2:Nat):Int):=by
  rw [show (1:Int)=((1:Nat):Int) from rfl,(bits_nat .u32 32 (by decide) pD D 1 h (by decide)).1,Nat.and_one_is_mod]
 have b:((D:Int) / 2)=((D / 2:Nat):Int):=by omega
 rw [a,b]
 have c:(((D % 2:Nat):Int) * 3988292384 % 4294967296)=(((if D % 2=1 then Li else 0):Nat):Int):=by
  unfold Li
  split <;> omega
 rw [c,lh .u32 32 (by decide) pD _ _ (by omega) (by split <;> decide)]
 rfl
theorem OY{C:Nat}(h:C < 2 ^ 32):bits .xor .u32 4294967295 (C:Int)=((4294967295 - C:Nat):Int):=by
 rw [show (4294967295:Int)=((4294967295:Nat):Int) from rfl,lh .u32 32 (by decide) pD _ _ (by decide) h]
 congr 1
 have:=BitVec.toNat_not (x:=BitVec.ofNat 32 C);have e:(BitVec.ofNat 32 C).toNat=C:=by rw [BitVec.toNat_ofNat];exact SV h
 rw [e] at this
 have x: ~~~(BitVec.ofNat 32 C)=BitVec.allOnes 32 ^^^ BitVec.ofNat 32 C:=by
  rw [BitVec.allOnes_xor]
 rw [x,BitVec.toNat_xor,e] at this;simpa using this
theorem zF(s:QL)(w:QI)(r:s.size<=Y7):Y8 Ys 95 #[T s] w λe o=>e=YX (I .u32 (po s.data.toList))/\w=o:=by
 unfold maxLen at r;go_enter func95,ntmps95;go_wp2_with fail
 refine (IZ _).mono ?_;rintro e o ⟨rfl,rfl⟩;go_wp2_with fail
 go_loop [4,10] (λc i=>∃k C:Nat,k<=s.size/\i=I J k/\c=I .u32 C/\H (C < 2 ^ 32)/\H (C=BC 4294967295 (s.data.toList.take k))) (λ_ i=>s.size - (Y9 i).toNat)
 case atStart=>exact ⟨0,4294967295,QS _,rfl,rfl,K (by decide),rfl⟩
 case round=>
  obtain ⟨k,C,v,rfl,rfl,d,f⟩:=hrel
  by_cases m:k < s.size
  .go_wp2_with fail
   go_loop [4,19] (λc i=>∃j D:Nat,j<=8/\i=I J j/\c=I .u32 D/\H (D=jT j (C ^^^ s[k].toNat))) (λ_ i=>8 - (Y9 i).toNat)
   case atStart=>
    refine ⟨0,C ^^^ s[k].toNat,by omega,rfl,?_,rfl⟩
    have t:=s[k].toNat_lt;rw [show ((s[k].toNat:Int) % 4294967296)=((s[k].toNat:Nat):Int) by omega,lh .u32 32 (by decide) pD _ _ d.out (by omega)]
   case round=>
    obtain ⟨j,D,u,rfl,rfl,g⟩:=hrel;have a:H (D < 2 ^ 32):=K (by rw [g.out];exact vZ j (UO d.out (by have:=s[k].toNat_lt;omega)))
    by_cases q:j < 8
    .go_wp2_with fail
     refine ⟨⟨j+1,ow D,by omega,by go_num,?_,K (by rw [g.out,qZ])⟩,by simp [Y9];omega⟩
     rw [Hd a.out]
    have h:j=8:=by omega
    subst h;go_wp2_with fail
    refine ⟨⟨k+1,D,by omega,by go_num,rfl,a,K ?_⟩,by simp [Y9];omega⟩
    rw [g.out,f.out,v8 _ _ k (by simpa using m),He];rfl
  have l:k=s.size:=by omega
  subst l;have p:=d.out
  have n:po s.data.toList=4294967295 - C:=by
   unfold po;rw [f.out,SQ (by simp)]
  have b:=OY p;clear d f;go_wp2_with fail
  go_ret;refine ⟨JF ?_,rfl⟩;rw [show IntKind.u32.max=4294967295 from rfl];exact b
theorem J1{w:QI}{b:Nat}{a:TypeId}{z:Nat×Nat}{c d e f g i j k l:QJ}(h:w.heap[b]? =S (.cells #[c,d,e,f,g,i,j,k,l] a z)):w.cell? ⟨b,0,N⟩=S c/\w.cell? ⟨b,1,N⟩=S d/\w.cell? ⟨b,2,N⟩=S e/\w.cell? ⟨b,3,N⟩=S f/\w.cell? ⟨b,4,N⟩=S g/\w.cell? ⟨b,5,N⟩=S i/\w.cell? ⟨b,6,N⟩=S j/\w.cell? ⟨b,7,N⟩=S k/\w.cell? ⟨b,8,N⟩=S l:=by
 refine ⟨?_,?_,?_,?_,?_,?_,?_,?_,?_⟩ <;> (rw [Q3 h];rfl)
theorem oZ{w W:QI}{b:Nat}{u0 u1 x y:QJ}(h:w.heap[b]? =S (.cells #[u0,u1] 52 (0,0)))(c:(w.setCell ⟨b,0,N⟩ x).setCell ⟨b,1,N⟩ y=W):W.cell? ⟨b,0,N⟩=S x/\W.cell? ⟨b,1,N⟩=S y/\aA b w W:=by
 have a:=Ro _ b 1 _ _ y (Ro w b 0 _ _ x h);rw [c] at a;exact ⟨Q3 a _,Q3 a _,by rw [<-c];exact ((aA.refl _ _).setCell _).setCell _⟩
open Go.Conc Go.RowKit
theorem N0(sb d s r:Nat)(g:Bool)(a:Array QJ)(l:QF)(w:QI)(m:w.cell? ⟨sb,3,N⟩=S (.chan (S d)))(h:w.heap[d]? =S (.chan 3 a F s r g))(b:a.size < 3)(o:l.length<=1048576):Y8 Ys 57 #[YV (S ⟨sb,0,N⟩),T (bs l)] w λe j=>e=YX (YY #[])/\w.setChan d 3 (a.push (T (bs (l++[13,10])))) F (s+1) r g=j:=by
 have p:=aj l;have i:¬9223372036854775807 < l.length+2:=by omega
 refine calls_of_loneTo λk=>?_
 have e:Frame.enter Ys 57 #[YV (S ⟨sb,0,N⟩),T (bs l)] .normal=(base 57).at ⟨#[YV (S ⟨sb,0,N⟩),T (bs l),undef,undef,undef,undef,undef,undef,undef,undef],[]⟩ [.code (Tryz.f57.body.getD .skip)]:=by
  simp [Frame.enter,Frame.at,func57,base,Tryz.f57]
 rw [e];refine LoneTo.goes (n:=7) ?_;simp only [Tryz.f57,Option.getD_some]
 s_reg
 s_op
 s_op
 s_op
 s_op
 s_op
 s_op
 s_stop
 have f:(bs l++(⟨#[13,10]⟩:QL))=bs (l++[13,10]):=(aQ l [13,10]).symm;refine LoneTo.step (step_lone_send_room (c:=d) (cap:=3) (buf:=a) (s:=s) (r:=r) (tm:=g) (v:=T (bs (l++[13,10]))) (stepG_comm (cases:=#[scase d (T (bs (l++[13,10]))) (YY #[])]) (blocking:=YT) (shape:= .send) (w':=w) rfl rfl (by decide) (by simp [execOp,scase,Act.eval,f])) h b) ?_;rw [VZ]
 walk_nrm
 refine LoneTo.goes (n:=2) ?_
 s_c stepG_region_end
 s_c stepG_end
 s_stop
 refine LoneTo.done ⟨YX (YY #[]),_,rfl,⟨rfl,rfl⟩,rfl,rfl,rfl,rfl,_,func57,by simp [results,Tryz.f57,Frame.at]⟩
theorem Me{P:Program}{Q:Goroutine->QI->Prop}{f:FuncId}{b:Array QJ}{w:QI}{R:Zb->QI->Prop}{c:Frame}{g:List Frame}(h:Y8 P f b w R)(n:∀a d,¬R (.panicked a) d)(m:∀d,¬R .outgrown d)
  (k:∀v d,R (YX v) d->LoneTo P Q (G (c.finish v) g) d):LoneTo P Q (G (Frame.enter P f b .normal) (c::g)) w:=by
 obtain ⟨e,d,r,i,j,_,l⟩:=h (c::g)
 cases e
 case returned v=>
  obtain ⟨g2,q,p,o⟩:=k v d i;exact ⟨g2,q,Steps.trans j (Steps.head (step_leave_returned l) p),o⟩
 case panicked a=>exact absurd i (n _ _)
 exact absurd i (m _)
def qw:Option Code->Code
 | some (.block _ (.loop c))=>c
 | _=> .skip
def gY(f:Func):Code:=qw f.body
theorem LI(q:QF->QI->Prop)(sb i:Nat)(u:Bool)(vb:QJ)(cs:List Frame)(R:QI->Prop)
  (hW:∀a l w,q a w->l.length<=1048576->a.length+l.length<=140737488355328->Y8 Ys 102 #[vb,T (bs l)] w λe j=>(∃v,e=YX v)/\q (a++l) j/\∀o,w.heap[i]? =S o->j.heap[i]? =S o)
  (d:∀a w,q a w->w.cell? ⟨sb,3,N⟩=S (.chan (S i)))
  (p:∀a w W y s r,q a w->w.heap[i]? =S (.chan 3 W F s r u)->q a (w.setChan i 3 y F s (r+1) u)):
  ∀(g:List QF) (a:QF) (w:QI) (s r:Nat) (u2 u3 u4 u5 u6 u7 u8 u9 u10 u11 u12 u13 u14 u15:QJ),q a w->w.heap[i]? =S (.chan 3 (g.map λl=>T (bs l)).toArray F s r u)->(∀l∈g,l.length<=1048576)->a.length+g.flatten.length<=140737488355328->
   (∀j s' r',q (a++g.flatten) j->j.heap[i]? =S (.chan 3 #[] F s' r' u)->R j)->
   LoneTo Ys (λg' j=>∃e X,g'=G X cs/\(e=YX (YY #[])/\R j)/\X.fn=58/\X.leaving Ys j e)
    (G ((base 58).at ⟨#[YV (S ⟨sb,0,N⟩),vb,u2,u3,u4,u5,u6,u7,u8,u9,u10,u11,u12,u13,u14,u15],[]⟩ [.code (gY Tryz.f58),.inLoop (gY Tryz.f58),.inBlock 0]) cs) w:=by
 intro g
 induction g with
 | nil=>
  intro a w s r u2 u3 u4 u5 u6 u7 u8 u9 u10 u11 u12 u13 u14 u15 t b _ _ U;have hc:=d a w t;have M:=U w s r (by simpa using t) (by simpa using b);simp only [RF] at b;clear hW d p U;refine LoneTo.goes (n:=30) ?_;simp only [gY,qw,Tryz.f58]
  s_c stepG_block
  s_c stepG_seq
  s_reg
  s_op
  s_op
  s_op
  s_op
  s_c stepG_region_end
  s_c stepG_seq
  s_reg
  s_stop
  refine LoneTo.step (step_lone_select_default (c:=i) (z:=T ⟨#[]⟩) (stepG_comm (cases:=#[rcase i (T ⟨#[]⟩)]) (blocking:=F) (shape:= .select) (w':=w) rfl rfl (by decide) (by simp [go_sem,rcase,Act.eval,execOp])) b) ?_;rw [VZ]
  walk_nrm
  refine LoneTo.goes (n:=20) ?_
  s_op
  s_op
  s_c stepG_region_end
  s_c stepG_block
  s_cond F
  s_c stepG_ret'
  s_stop
  exact LoneTo.done ⟨YX (YY #[]),_,rfl,⟨rfl,M⟩,rfl,rfl,rfl,rfl,_,func58,by simp [results,Tryz.f58,Frame.at]⟩
 | cons l g ih=>
  intro a w s r u2 u3 u4 u5 u6 u7 u8 u9 u10 u11 u12 u13 u14 u15 t b hl B U;have hc:=d a w t;have a1:=hl l (Tw ..);have C:a.length+l.length<=140737488355328:=by rw [V7,RI] at B;omega
  have D:(a++l).length+g.flatten.length<=140737488355328:=by rw [V7,RI] at B;rw [RI];omega
  have A:=p a w _ (g.map λl=>T (bs l)).toArray s r t b;have O:((((l::g).map λl=>T (bs l)).toArray).extract 1 (((l::g).map λl=>T (bs l)).toArray).size)=(g.map λl=>T (bs l)).toArray:=by simp [SQ]
  have P:((((l::g).map λl=>T (bs l)).toArray).getD 0 undef)=T (bs l):=by simp
  have m:i < w.heap.size:=(Array.getElem?_eq_some_iff.1 b).1;refine LoneTo.goes (n:=30) ?_;simp only [gY,qw,Tryz.f58]
  s_c stepG_block
  s_c stepG_seq
  s_reg
  s_op
  s_op
  s_op
  s_op
  s_c stepG_region_end
  s_c stepG_seq
  s_reg
  s_stop
  refine LoneTo.step (step_lone_select_recv_buf (c:=i) (z:=T ⟨#[]⟩) (stepG_comm (cases:=#[rcase i (T ⟨#[]⟩)]) (blocking:=F) (shape:= .select) (w':=w) rfl rfl (by decide) (by simp [go_sem,rcase,Act.eval,execOp])) b (by simp)) ?_;rw [O,P];rw [VZ]
  walk_nrm
  have k:=heap_setChan w i 3 (g.map λl=>T (bs l)).toArray F s (r+1) u m;obtain ⟨V,Q⟩:∃V,w.setChan i 3 (g.map λl=>T (bs l)).toArray F s (r+1) u=V:=⟨_,rfl⟩;rw [Q] at A k ⊢;clear Q hc b t O P m;refine LoneTo.goes (n:=30) ?_
  s_op
  s_op
  s_c stepG_region_end
  s_c stepG_block
  s_cond YT
  s_c stepG_seq
  s_reg
  s_op
  s_op
  s_c stepG_region_end
  s_reg
  s_op
  s_op
  s_stop
  refine LoneTo.step (step_solo_go rfl (stepG_enter (f:=102) (args:=#[vb,T (bs l)]) (w':=V) rfl rfl (by decide) (by simp [go_sem,Act.eval,execOp]))) ?_;refine Me (hW a l V A a1 C) (λ_ _ h=>by obtain ⟨⟨_,h⟩,_⟩:=h;cases h) (λ_ h=>by obtain ⟨⟨_,h⟩,_⟩:=h;cases h) λv w2 Y=>?_;obtain ⟨_,Z,a0⟩:=Y;have E:=a0 _ k;rw [VZ]
  walk_nrm
  refine LoneTo.goes (n:=30) ?_
  s_c stepG_region_end
  s_c stepG_inBlock
  s_c stepG_inBlock
  s_c stepG_inLoop
  s_stop
  exact ih (a++l) w2 s (r+1) _ _ _ _ _ _ _ _ _ _ _ _ _ _ Z E (λx hx=>hl x (Tx _ hx)) D (λj s' r' h1 Y=>U j s' r' (by rw [V7, <-Sq];exact h1) Y)
theorem DU(b:QF->QI->Prop)(sb c s r:Nat)(j:Bool)(k:QJ)(i:List QF)(a:QF)(w:QI)
  (B:∀a l w,b a w->l.length<=1048576->a.length+l.length<=140737488355328->Y8 Ys 102 #[k,T (bs l)] w λe f=>(∃v,e=YX v)/\b (a++l) f/\∀o,w.heap[c]? =S o->f.heap[c]? =S o)
  (d:∀a w,b a w->w.cell? ⟨sb,3,N⟩=S (.chan (S c)))
  (h:∀a w m g s r,b a w->w.heap[c]? =S (.chan 3 m F s r j)->b a (w.setChan c 3 g F s (r+1) j))
  (A:b a w) (q:w.heap[c]? =S (.chan 3 (i.map λl=>T (bs l)).toArray F s r j)) (C:∀l∈i,l.length<=1048576) (p:a.length+i.flatten.length<=140737488355328):
  Y8 Ys 58 #[YV (S ⟨sb,0,N⟩),k] w λe f=>e=YX (YY #[])/\∃u t,b (a++i.flatten) f/\f.heap[c]? =S (.chan 3 #[] F u t j):=by
 refine calls_of_loneTo λx=>?_
 have e:Frame.enter Ys 58 #[YV (S ⟨sb,0,N⟩),k] .normal=(base 58).at ⟨#[YV (S ⟨sb,0,N⟩),k,undef,undef,undef,undef,undef,undef,undef,undef,undef,undef,undef,undef,undef,undef],[]⟩ [.code (.block 0 (.loop (gY Tryz.f58)))]:=by
  simp [Frame.enter,Frame.at,func58,base,Tryz.f58,gY,qw]
 rw [e];refine LoneTo.goes (n:=2) ?_
 s_c stepG_block
 s_c stepG_loop
 s_stop
 exact LI b sb c j k x _ B d h i a w s r _ _ _ _ _ _ _ _ _ _ _ _ _ _ A q C p (λf u t y z=>⟨u,t,y,z⟩)
def Jr(f:FuncId):Frame:={base f with kind:= .deferred}
theorem Jj(q:QF->QI->Prop)(sb i:Nat)(u:Bool)(vb:QJ)(cs:List Frame)(R:QI->Prop)
  (hW:∀a l w,q a w->l.length<=1048576->a.length+l.length<=140737488355328->Y8 Ys 102 #[vb,T (bs l)] w λe j=>(∃v,e=YX v)/\q (a++l) j/\∀o,w.heap[i]? =S o->j.heap[i]? =S o)
  (d:∀a w,q a w->w.cell? ⟨sb,3,N⟩=S (.chan (S i)))
  (p:∀a w W y s r,q a w->w.heap[i]? =S (.chan 3 W F s r u)->q a (w.setChan i 3 y F s (r+1) u)):
  ∀(g:List QF) (a:QF) (w:QI) (s r:Nat) (u2 u3 u4 u5 u6 u7 u8 u9 u10 u11 u12 u13 u14 u15:QJ),q a w->w.heap[i]? =S (.chan 3 (g.map λl=>T (bs l)).toArray F s r u)->(∀l∈g,l.length<=1048576)->a.length+g.flatten.length<=140737488355328->
   (∀j s' r',q (a++g.flatten) j->j.heap[i]? =S (.chan 3 #[] F s' r' u)->R j)->
   LoneTo Ys (λg' j=>∃e X,g'=G X cs/\(e=YX (YY #[])/\R j)/\X.kind= .deferred/\X.going Ys j e)
    (G ((Jr 58).at ⟨#[YV (S ⟨sb,0,N⟩),vb,u2,u3,u4,u5,u6,u7,u8,u9,u10,u11,u12,u13,u14,u15],[]⟩ [.code (gY Tryz.f58),.inLoop (gY Tryz.f58),.inBlock 0]) cs) w:=by
 intro g
 induction g with
 | nil=>
  intro a w s r u2 u3 u4 u5 u6 u7 u8 u9 u10 u11 u12 u13 u14 u15 t b _ _ U;have hc:=d a w t;have M:=U w s r (by simpa using t) (by simpa using b);simp only [RF] at b;clear hW d p U;refine LoneTo.goes (n:=30) ?_;simp only [gY,qw,Tryz.f58]
  s_c stepG_block
  s_c stepG_seq
  s_reg
  s_op
  s_op
  s_op
  s_op
  s_c stepG_region_end
  s_c stepG_seq
  s_reg
  s_stop
  refine LoneTo.step (step_lone_select_default (c:=i) (z:=T ⟨#[]⟩) (stepG_comm (cases:=#[rcase i (T ⟨#[]⟩)]) (blocking:=F) (shape:= .select) (w':=w) rfl rfl (by decide) (by simp [go_sem,rcase,Act.eval,execOp])) b) ?_;rw [VZ]
  walk_nrm
  refine LoneTo.goes (n:=20) ?_
  s_op
  s_op
  s_c stepG_region_end
  s_c stepG_block
  s_cond F
  s_c stepG_ret'
  s_stop
  exact LoneTo.done ⟨YX (YY #[]),_,rfl,⟨rfl,M⟩,rfl,rfl,rfl,_,func58,by simp [results,Tryz.f58,Frame.at]⟩
 | cons l g ih=>
  intro a w s r u2 u3 u4 u5 u6 u7 u8 u9 u10 u11 u12 u13 u14 u15 t b hl B U;have hc:=d a w t;have a1:=hl l (Tw ..);have C:a.length+l.length<=140737488355328:=by rw [V7,RI] at B;omega
  have D:(a++l).length+g.flatten.length<=140737488355328:=by rw [V7,RI] at B;rw [RI];omega
  have A:=p a w _ (g.map λl=>T (bs l)).toArray s r t b;have O:((((l::g).map λl=>T (bs l)).toArray).extract 1 (((l::g).map λl=>T (bs l)).toArray).size)=(g.map λl=>T (bs l)).toArray:=by simp [SQ]
  have P:((((l::g).map λl=>T (bs l)).toArray).getD 0 undef)=T (bs l):=by simp
  have m:i < w.heap.size:=(Array.getElem?_eq_some_iff.1 b).1;refine LoneTo.goes (n:=30) ?_;simp only [gY,qw,Tryz.f58]
  s_c stepG_block
  s_c stepG_seq
  s_reg
  s_op
  s_op
  s_op
  s_op
  s_c stepG_region_end
  s_c stepG_seq
  s_reg
  s_stop
  refine LoneTo.step (step_lone_select_recv_buf (c:=i) (z:=T ⟨#[]⟩) (stepG_comm (cases:=#[rcase i (T ⟨#[]⟩)]) (blocking:=F) (shape:= .select) (w':=w) rfl rfl (by decide) (by simp [go_sem,rcase,Act.eval,execOp])) b (by simp)) ?_;rw [O,P];rw [VZ]
  walk_nrm
  have k:=heap_setChan w i 3 (g.map λl=>T (bs l)).toArray F s (r+1) u m;obtain ⟨V,Q⟩:∃V,w.setChan i 3 (g.map λl=>T (bs l)).toArray F s (r+1) u=V:=⟨_,rfl⟩;rw [Q] at A k ⊢;clear Q hc b t O P m;refine LoneTo.goes (n:=30) ?_
  s_op
  s_op
  s_c stepG_region_end
  s_c stepG_block
  s_cond YT
  s_c stepG_seq
  s_reg
  s_op
  s_op
  s_c stepG_region_end
  s_reg
  s_op
  s_op
  s_stop
  refine LoneTo.step (step_solo_go rfl (stepG_enter (f:=102) (args:=#[vb,T (bs l)]) (w':=V) rfl rfl (by decide) (by simp [go_sem,Act.eval,execOp]))) ?_;refine Me (hW a l V A a1 C) (λ_ _ h=>by obtain ⟨⟨_,h⟩,_⟩:=h;cases h) (λ_ h=>by obtain ⟨⟨_,h⟩,_⟩:=h;cases h) λv w2 Y=>?_;obtain ⟨_,Z,a0⟩:=Y;have E:=a0 _ k;rw [VZ]
  walk_nrm
  refine LoneTo.goes (n:=30) ?_
  s_c stepG_region_end
  s_c stepG_inBlock
  s_c stepG_inBlock
  s_c stepG_inLoop
  s_stop
  exact ih (a++l) w2 s (r+1) _ _ _ _ _ _ _ _ _ _ _ _ _ _ Z E (λx hx=>hl x (Tx _ hx)) D (λj s' r' h1 Y=>U j s' r' (by rw [V7, <-Sq];exact h1) Y)
theorem Bj(b:QF->QI->Prop)(sb c s r:Nat)(j:Bool)(y:QJ)(i:List QF)(a:QF)(w:QI)(m:List Frame)
  (D:∀a l w,b a w->l.length<=1048576->a.length+l.length<=140737488355328->Y8 Ys 102 #[y,T (bs l)] w λe f=>(∃v,e=YX v)/\b (a++l) f/\∀o,w.heap[c]? =S o->f.heap[c]? =S o)
  (d:∀a w,b a w->w.cell? ⟨sb,3,N⟩=S (.chan (S c)))
  (h:∀a w k g s r,b a w->w.heap[c]? =S (.chan 3 k F s r j)->b a (w.setChan c 3 g F s (r+1) j))
  (C:b a w) (t:w.heap[c]? =S (.chan 3 (i.map λl=>T (bs l)).toArray F s r j)) (E:∀l∈i,l.length<=1048576) (q:a.length+i.flatten.length<=140737488355328):
  LoneTo Ys (λz f=>∃e p,z=G p m/\(e=YX (YY #[])/\∃x u,b (a++i.flatten) f/\f.heap[c]? =S (.chan 3 #[] F x u j))/\p.kind= .deferred/\p.going Ys f e)
   (G ((Jr 58).at ⟨#[YV (S ⟨sb,0,N⟩),y,undef,undef,undef,undef,undef,undef,undef,undef,undef,undef,undef,undef,undef,undef],[]⟩ [.code (.block 0 (.loop (gY Tryz.f58)))]) m) w:=by
 refine LoneTo.goes (n:=2) ?_
 s_c stepG_block
 s_c stepG_loop
 s_stop
 exact Jj b sb c j y m _ D d h i a w s r _ _ _ _ _ _ _ _ _ _ _ _ _ _ C t E q (λf x u A B=>⟨x,u,A,B⟩)
theorem Aa(b:QF->QI->Prop)(sb d s r:Nat)(m:Bool)(n:QJ)(k:List QF)(a:QF)(u:FrameMode)(w:QI)
  (A:∀a l w,b a w->l.length<=1048576->a.length+l.length<=140737488355328->Y8 Ys 102 #[n,T (bs l)] w λe g=>(∃v,e=YX v)/\b (a++l) g/\∀o,w.heap[d]? =S o->g.heap[d]? =S o)
  (f:∀a w,b a w->w.cell? ⟨sb,3,N⟩=S (.chan (S d)))
  (j:∀a w p i s r,b a w->w.heap[d]? =S (.chan 3 p F s r m)->b a (w.setChan d 3 i F s (r+1) m))
  (z:b a w) (t:w.heap[d]? =S (.chan 3 (k.map λl=>T (bs l)).toArray F s r m)) (D:∀l∈k,l.length<=1048576) (q:a.length+k.flatten.length<=140737488355328):
  CallsD Ys 58 #[YV (S ⟨sb,0,N⟩),n] u w λe u' g=>u'=u/\e=YX (YY #[])/\∃O M,b (a++k.flatten) g/\g.heap[d]? =S (.chan 3 #[] F O M m):=by
 intro c x G;subst G
 have e:Frame.enter Ys 58 #[YV (S ⟨sb,0,N⟩),n] .deferred=(Jr 58).at ⟨#[YV (S ⟨sb,0,N⟩),n,undef,undef,undef,undef,undef,undef,undef,undef,undef,undef,undef,undef,undef,undef],[]⟩ [.code (.block 0 (.loop (gY Tryz.f58)))]:=by
  simp [Frame.enter,Frame.at,func58,Jr,base,Tryz.f58,gY,qw]
 obtain ⟨_,g,E,P,y,rfl,⟨rfl,h⟩,C,B⟩:=Bj b sb d s r m n k a w (c::x) A f j z t D q;rw [e];exact ⟨YX (YY #[]),c.mode,g,y,⟨rfl,rfl,h⟩,E,C,B⟩
end Go.Proofs.YtponhohdpophlaaGreatDoor
