import Derived.Lib.FrozenHead
import Derived.Lib.DecodeN
import Derived.Test.YtponhohdpophlaaGreatDoorS06
import Derived.Test.YtponhohdpophlaaGreatDoorS01
namespace Go.Proofs.YtponhohdpophlaaGreatDoor
set_option maxHeartbeats 8000000
set_option maxRecDepth 1000000
open Go renaming heap_setCell_same->Ro,bodyPost_ret->Ru,maxLen->Y7,Calls->Y8,TypeId->Za
open Go.Ending renaming returned->YX
open Go.IntKind renaming i64->J,wrap_i64->QY
open Go.Lib renaming cell_of_heap->Q3,frozen_of_heap->RJ
open Go.Obj renaming cells->YU
open Go.Proofs.Tryz renaming underlying100->RG,underlying9->RH,ntmps105->WG,results105->WH,func105->WL,func162->Wb,ntmps162->Wc,ntmps250->Wv,func250->Xm,prog->Ys
open Go.RowKit renaming Hid->H,Below->Y6,intOf->Y9
open Go.RowKit.Below renaming refl->QQ
open Go.Value renaming int->I,slice->L,string->T,pointer->YV,bool->YW,tuple->YY
open _root_.Bool renaming false->F,false_or->Q6,eq_iff_iff->Ri,and_eq_true->Rk,or_true->Sz,or_eq_false_iff->TL,or_eq_true->Ty,true->YT
open _root_.List renaming getD_eq_getElem?_getD->Q5,getElem_mem->QU,take_succ_eq_append_getElem->QV,take_length->QZ,getElem?_eq_getElem->Re,drop_zero->SY,length_take->Sm,any_cons->V8
open _root_.Nat renaming le_refl->QR,zero_le->QS,zero_add->TD
open _root_.Option renaming none->N,some->S
open Go.Proofs.Tryz
open Go.RowKit
theorem rE(l:List Nat)(k:Nat)(h:k < l.length):(bc l)[k]? =S (I J (l[k]:Int)):=by simp [bc,h]
theorem AM{l:List Nat}{t:Nat}{k:Nat}(b:k < l.length)(h:t ∉ l.take k)(c:¬t=l[k]):t ∉ l.take (k+1):=by
 rw [QV b,List.mem_append,List.mem_singleton];rintro (a | a)
 .exact h a
 exact c a
theorem Dl(l:List Nat)(t:Nat)(v:QJ)(w:QI)(h:bg w v l.length 1 (bc l))(z:l.length<=255):Y8 Ys 306 #[v,I J (t:Int)] w λe x=>∃r:Int,e=YX (I J r)/\(-1<=r/\r<=255)/\(0<=r ↔ t∈l)/\w=x:=by
 obtain ⟨a,q,rfl,n⟩:=h.one;have p:=K n;clear n h;go_enter func306,ntmps306;go_wp2_with fail
 go_loop [8] (λi=>∃k:Nat,k<=l.length/\i=I J k/\H (t ∉ l.take k)) (λi=>l.length - (Y9 i).toNat)
 case atStart=>exact ⟨0,QS _,rfl,K (by simp)⟩
 case round=>
  obtain ⟨k,y,rfl,m⟩:=hrel
  by_cases c:k < l.length
  .have o:(k:Int) < (l.length:Int):=by omega
   obtain ⟨b,u,rfl,_,d⟩:=p.out k c;rw [rE l k c] at d
   by_cases g:t=l[k]
   .have s:((t:Int) == (l[k]:Int))=YT:=by rw [g];simp
    have f:H (t∈l):=K (by rw [g];exact QU c);clear g;go_wp2_with fail
    go_ret;exact ⟨_,rfl,by omega,⟨λ_=>f.out,λ_=>by omega⟩,rfl⟩
   have s:((t:Int) == (l[k]:Int))=F:=by rw [beq_eq_false_iff_ne];omega
   have f:=K (AM c m.out g);clear g;go_wp2_with fail
   exact ⟨⟨k+1,by omega,by go_num,f⟩,by simp [Y9];omega⟩
  have j:k=l.length:=by omega
  subst j
  have f:H (t ∉ l):=K (by
   have:=m.out
   rwa [QZ] at this)
  go_wp2_with fail
  go_ret;exact ⟨_,rfl,by omega,⟨λh=>by omega,λh=>absurd h f.out⟩,rfl⟩
theorem uA(l:List Nat)(t:Nat)(v:QJ)(w:QI)(h:bg w v l.length 1 (bc l))(g:l.length<=255):Y8 Ys 268 #[v,I J (t:Int)] w λe i=>e=YX (YW (l.contains t))/\w=i:=by
 have c:=Dl l t v w h g;obtain ⟨a,f,rfl,_⟩:=h.one;clear h;go_enter func268,ntmps268;go_wp2_with fail
 refine c.mono ?_;rintro e k ⟨r,rfl,j,b,rfl⟩;have d:H (decide (0<=r)=l.contains t):=K (by rw [Ri,decide_eq_true_iff,List.contains_iff_mem];exact b);clear b c;go_wp2_with fail
 go_ret;exact ⟨b8 d.out,rfl⟩
structure j8(base:Nat)(w:QI)(b:Nat)(v:QJ)(acc:QF):Prop where
 xp:∃p,(p=N\/p=S ⟨b,0,N⟩)/\w.heap[b]? =S (YU #[YV p,v] 115 (0,0))
 row:w.ownsRowF base 5 1 v acc.length (Lib.byteCells acc)
 far:v.ownBlock≠S b
theorem Ay(b:Nat)(v:QJ)(p:QK)(w:QI)(c:p=N\/p=S ⟨b,0,N⟩)(h:w.heap[b]? =S (YU #[YV p,v] 115 (0,0))):Y8 Ys 159 #[YV (S ⟨b,0,N⟩)] w λe a=>e=YX (YY #[])/\a.heap[b]? =S (YU #[YV (S ⟨b,0,N⟩),v] 115 (0,0))/\aA b w a:=by
 rcases c with rfl | rfl
 .refine (Any.Builder_copyCheck_fresh (P:=Ys) {Tryz.lays159 with} Tryz.Builder_Extra_159.toX72 b w (Q3 h _) (by simp only [World.shape?,h];rfl) (RJ h 0)).mono ?_;rintro e a ⟨rfl,rfl⟩;exact ⟨rfl,Ro w b 0 _ _ _ h,(aA.refl _ _).setCell _⟩
 refine (Any.Builder_copyCheck_used (P:=Ys) {Tryz.lays159 with} Tryz.Builder_Extra_159.toX72 b w (Q3 h _)).mono ?_;rintro e a ⟨rfl,rfl⟩;exact ⟨rfl,h,aA.refl _ _⟩
theorem Lu{w:QI}{a d f n:Nat}{e:Za}{v:QJ}{i:List QJ}(h:w.ownsRowF a e f v n i)(m:d<=a):w.ownsRowF d e f v n i:=by
 refine ⟨h.1,?_⟩
 rcases h.2 with h | ⟨g,b,c,l,j,k,r⟩
 .exact .inl h
 exact .inr ⟨g,b,c,l,j,Nat.le_trans m k,r⟩
theorem ly{w j:QI}{a i n b:Nat}{e:Za}{v:QJ}{k:List QJ}(h:w.ownsRowF a e i v n k)(q:aA b w j)(p:v.ownBlock≠S b):j.ownsRowF a e i v n k:=by
 refine ⟨h.1,?_⟩
 rcases h.2 with h | ⟨g,c,d,o,f,l,m,r⟩
 .exact .inl h
 exact .inr ⟨g,c,d,o,f,l,(q.2 g (λe=>p (by rw [f,e];rfl))).trans m,r⟩
theorem kX{P:Program}(w:QI)(c:Nat)(t u D e:Za)(i:TypeInfo)(M:P.underlying t=S (.slice e))(O:P.underlying u=S .string)(E:P.info? e=S i)(Y:i.zero=S (I .u8 0))
  (a:i.size=1) (o:i.bytes=1) (v:QJ) (n:Nat) (y:List QJ) (b:w.ownsRowF c e 1 v n y) (s:QL) (m:n+s.size<=Y7) (d:n+s.size<=140737488355328) (f:c<=w.heap.size):
  ∃r x,(Builtin.append_ #[t,u] D #[v,T s]).run P w= .ok r x/\x.ownsRowF c e 1 r (n+s.size) (y++Lib.strCells s)/\w.grownBy x v.ownBlock/\∀k,r.ownBlock=S k->v.ownBlock=S k\/w.heap.size<=k:=by
 rcases b.2 with ⟨rfl,rfl⟩ | ⟨g,h,z,fz,rfl,a0,hg,V,a2,a1,U,W⟩
 .obtain ⟨r,x,A,Q,R,_⟩:=Lib.run_append_own_string (P:=P) w w.heap.size t u D e i M O E Y a o (L N 0 0) 0 y ⟨b.1,.inl ⟨rfl,rfl⟩⟩ s m d (QR _);have B:=World.ownsRowF_of Q;exact ⟨r,x,A,Lu B f,R,λk l=> .inr (B.lt k l).1⟩
 obtain ⟨r,x,A,Q,R,_⟩:=Lib.run_append_own_stringF (P:=P) w c t u D e i M O E Y a o _ n y b s m d f;refine ⟨r,x,A,Q,R,λk l=>?_⟩;have G:n+s.size<=9223372036854775807:=by simp only [Y7] at m;omega
 have X:y.length=n:=by simpa using b.1
 by_cases q:n+s.size<=h
 .have Z:z.size=h:=by simpa using U
  have C:=Lib.run_append_room_stringF (P:=P) w t u D e i M O E a g n h z fz hg (by simpa using V) s q (by omega);rw [A] at C;injection C with e1 _;rw [e1] at l;exact .inl l
 have p:∀j u,y[j]? =S u->w.cell? ((⟨g,0,N⟩:Addr).add j)=S u:=b.cells (g:=g) rfl;have C:=Lib.run_append_grow_string (P:=P) w t u D e i (I .u8 0) M O E Y ⟨g,0,N⟩ n h y (by rw [a];simpa using X) p s (by omega) (by omega) (by rw [o];exact growslice_fits (by omega) (by omega));rw [A] at C;injection C with e1 _;rw [e1] at l;injection l with l;exact .inr (Nat.le_of_eq l)
theorem jA{P:Program}{w:QI}{d:Array Oper}{c:List Oper}{o:Oper}{a:Act}{Q:Exit->Act->QI->Prop}(e:o.guard=N)(f x:Operand)(t u:Za)
  (j:o.op= .call {callee:= .builtin .append,args:=#[f,x],argTypes:=#[t,u]}) (v r:QJ) (s:QL) (g:QI) (l:a.eval f=v) (m:a.eval x=T s) (k:(Builtin.append_ #[t,u] o.type #[v,T s]).run P w= .ok r g) (h:wpList P d Q c (a.put o.dst r) g):wpList P d Q (o::c) a w:=
 wpList_plain e λb i=>by
  unfold Oper.wp execOp;simp only [j,resolve,invoke,builtin,Sem.run_bind,Sem.run_pure,Result.andThen_ok,List.map_toArray,List.map_cons,List.map_nil,l,m,k];exact i _ _ h
theorem mN:(prog.info? 5).map (λi=>(i.zero,i.size,i.bytes))=S (S (I .u8 0),1,1):=by kernel_rfl
theorem mG(a l:QF):Lib.byteCells (a++l)=Lib.byteCells a++Lib.strCells (bs l):=by simp [Lib.byteCells,Lib.strCells,bs]
theorem uo(d b:Nat)(v:QJ)(m l:QF)(w:QI)(h:j8 d w b v m)(a2:d<=w.heap.size)(a7:m.length+l.length<=140737488355328):Y8 Ys 102 #[YV (S ⟨b,0,N⟩),T (bs l)] w λe Q=>(∃r,e=YX r)/\(∃O,j8 d Q b O (m++l)/\∀g,O.ownBlock=S g->v.ownBlock=S g\/w.heap.size<=g)/\(∀k o,w.heap[k]? =S o->k≠b->v.ownBlock≠S k->Q.heap[k]? =S o)/\df w Q/\w.heap.size<=Q.heap.size:=by
 obtain ⟨⟨p,hp,hb⟩,A,z⟩:=h;obtain ⟨i,hi,a4,a5,a6⟩:=info_parts mN;have a3:=aj l;have U:=K (Ay b v p w hp hb);have HR:=K A;have a8:b < w.heap.size:=(Array.getElem?_eq_some_iff.1 hb).1;clear hp hb A;go_enter func102,ntmps102;go_wp2_with fail
 refine U.out.mono ?_;rintro e w1 ⟨rfl,D,q⟩;have c1:w1.cell? ⟨b,1,N⟩=S v:=Q3 D _;have a9:w1.heap.size=w.heap.size:=q.1;obtain ⟨O,t,G,u,j,M⟩:=kX (P:=Ys) w1 d 100 9 100 5 i underlying100 underlying9 hi a4 a5 a6 v m.length (Lib.byteCells m) (ly HR.out q z) (bs l) (by unfold maxLen;omega) (by omega) (by omega);have s:t.heap[b]? =S (YU #[YV (S ⟨b,0,N⟩),v] 115 (0,0)):=(j.block b (by omega) (λe=>z e.symm)).trans D;have c2:t.cell? ⟨b,1,N⟩=S v:=Q3 s _;have f2:=RJ s 1
 have f:O.ownBlock≠S b:=λe=>by
  rcases u.2 with ⟨C,_⟩ | ⟨g,a0,a1,fz,C,_,e3,_⟩
  .rw [C] at e;cases e
  rw [C] at e;injection e with e;rw [show g=b from e,s] at e3;simp at e3
 obtain ⟨x,B,y,ev⟩:∃a n c,O=L a n c:=by
  rcases u.2 with ⟨C,_⟩ | ⟨g,a0,a1,fz,C,_⟩
  .exact ⟨_,_,_,C⟩
  exact ⟨_,_,_,C⟩
 subst ev;have E:aA b t (t.setCell ⟨b,1,N⟩ (L x B y)):=(aA.refl _ _).setCell _
 have R:H (j8 d (t.setCell ⟨b,1,N⟩ (L x B y)) b (L x B y) (m++l)):=K ⟨⟨_,.inr rfl,Ro t b 1 _ _ _ s⟩,by
  rw [mG,List.length_append, <-a3]
  exact ly u E f,f⟩
 have Z:=K (λg (h:(L x B y).ownBlock=S g)=>(M g h).imp id (λh=>(by omega:w.heap.size<=g)));have V:H (∀k o,w.heap[k]? =S o->k≠b->v.ownBlock≠S k->(t.setCell ⟨b,1,N⟩ (L x B y)).heap[k]? =S o):=K (λk o e h1 h2=>(E.2 k h1).trans ((j.block k (by have:=(Array.getElem?_eq_some_iff.1 e).1;omega) (λe'=>h2 e'.symm)).trans ((q.2 k h1).trans e)));have X:H (df w (t.setCell ⟨b,1,N⟩ (L x B y))):=K ((q.3.trans ⟨j.os,j.tape,j.output⟩).trans E.3);have Y:H (w.heap.size<=(t.setCell ⟨b,1,N⟩ (L x B y)).heap.size):=K (by rw [E.1];have:=j.size;omega);have W:=K G;clear G u j M D q s E f
 go_wp2_with (first
  | (at_builtin;refine jA rfl _ _ 100 9 rfl v (L x B y) (bs l) t rfl rfl W.out ?_)
  | fail)
 go_ret2
 exact ⟨⟨_,rfl⟩,⟨_,R.out,Z.out⟩,V.out,X.out,Y.out⟩
def lf(b:UInt8):Bool:=decide (b.toNat=0) || decide (b.toNat=10) || decide (b.toNat=13) || decide (126 < b.toNat)
def vB(x:Nat):Bool:=decide (x=0) || decide (x=10) || decide (x=13) || decide (126 < x)
theorem Db(n a b c d:Nat)(h:128<=a):126 < (Lib.decodeN n a b c d).1:=by
 unfold Lib.decodeN;rw [if_neg (by omega)]
 split
 .split <;> simp only [] <;> omega
 split
 .split <;> simp only [] <;> omega
 split
 .split <;> simp only [] <;> omega
 simp
theorem Hh(s:QL)(i:Nat)(h:(s.get! i).toNat < 128):Utf8.decode s i=((s.get! i).toNat,1):=by
 rw [Lib.decode_at];unfold Lib.decodeN;rw [if_pos h]
theorem EJ(s:QL)(i:Nat)(h:128<=(s.get! i).toNat):vB (Utf8.decode s i).1=YT:=by
 rw [Lib.decode_at];have:=Db (s.size - i) (s.get! i).toNat (s.get! (i+1)).toNat (s.get! (i+2)).toNat (s.get! (i+3)).toNat h;unfold vB;rw [decide_eq_true this,Sz]
theorem EU(l:QF)(j:Nat)(h:j < l.length):(bs l).get! j=l[j]:=by
 show (bs l).data[j]! =_;have:j < (bs l).data.size:=by have:=aj l;exact (by show j < (bs l).size;omega)
 rw [getElem!_pos (bs l).data j this];simp [bs]
theorem Jz(l:QF):∀(f a:Nat),a<=l.length->l.length<=a+f->(0<=Lib.idxFuncFrom vB YT (bs l) f a ↔ (l.drop a).any lf=YT)
 | 0,a,h1,h2=>by
  have:a=l.length:=by omega
  subst this;simp [Lib.idxFuncFrom]
 | f+1,a,h1,h2=>by
  have i:=aj l;unfold Lib.idxFuncFrom
  by_cases h:a < l.length
  .rw [if_pos (by omega)];have e:l.drop a=l[a]::l.drop (a+1):=List.drop_eq_getElem_cons h;have g:=EU l a h
   by_cases b:((bs l).get! a).toNat < 128
   .rw [Hh _ _ b,g];have c:vB l[a].toNat=lf l[a]:=rfl;simp only [];rw [e,V8,c]
    cases d:lf l[a]
    case true=>simp
    rw [if_neg (by simp),Q6];exact Jz l f (a+1) (by omega) (by omega)
   have:=EJ (bs l) a (by omega);rw [if_pos this,e,V8]
   have d:lf l[a]=YT:=by
    rw [g] at b;unfold lf;rw [decide_eq_true (show 126 < l[a].toNat by omega),Sz]
   rw [d,Bool.true_or];exact ⟨λ_=>rfl,λ_=>by omega⟩
  have:a=l.length:=by omega
  subst this;rw [if_neg (by omega)];simp
theorem KG(x:Nat)(w:QI)(j:x<=1114111):Y8 Ys 162 #[I .i32 (x:Int)] w λe f=>e=YX (YW (vB x))/\Y6 w.heap.size w f:=by
 unfold vB
 by_cases a:x=0
 .subst a;go_enter func162,ntmps162;go_wp2_with fail
  go_ret;exact ⟨rfl,QQ _ _⟩
 by_cases b:x=10
 .subst b;go_enter func162,ntmps162;go_wp2_with fail
  go_ret;exact ⟨rfl,QQ _ _⟩
 by_cases c:x=13
 .subst c;go_enter func162,ntmps162;go_wp2_with fail
  go_ret;exact ⟨rfl,QQ _ _⟩
 rw [decide_eq_false a,decide_eq_false b,decide_eq_false c];have g:((x:Int) == 0)=F:=by rw [beq_eq_false_iff_ne];omega
 have h:((x:Int) == 10)=F:=by rw [beq_eq_false_iff_ne];omega
 have i:((x:Int) == 13)=F:=by rw [beq_eq_false_iff_ne];omega
 have d:decide (126 < x)=decide ((126:Int) < (x:Int)):=by
  rw [Ri,decide_eq_true_eq,decide_eq_true_eq];omega
 rw [d];clear a b c d;go_enter func162,ntmps162;go_wp2_with fail
 go_ret;exact ⟨rfl,QQ _ _⟩
def sy(w:QI)(g:Nat)(l:QF):Prop:=∀j,j < l.length->w.cell? ⟨g,j,N⟩=S (I .u8 ((l.getD j 0).toNat:Int))
theorem sy.below{w b:QI}{g:Nat}{l:QF}(h:sy w g l)(c:Y6 w.heap.size w b):sy b g l:=λj a=>(c.cell (au (h j a))).trans (h j a)
theorem sy.string{w:QI}{g cap:Nat}{l:QF}(h:sy w g l):(convert 100 9 (L (S ⟨g,0,N⟩) l.length cap)).run Ys w= .ok (T (bs l)) w:=ib w g cap l.length l rfl h
theorem sy.at{w:QI}{g:Nat}{l:QF}(h:sy w g l):BytesAt (bs l) g 0 w:=λj b=>by
 have a:j < l.length:=by have:=aj l;omega
 rw [TD,h j a,EU l j a,Q5,Re a];rfl
theorem qj(l:QF)(g a:Nat)(w:QI)(h:sy w g l)(d:l.length<=a)(m:l.length<=1048576)(i:Lib.Utf8Tabs 2 3 w):Y8 Ys 269 #[L (S ⟨g,0,N⟩) l.length a,.func (.func 162) #[] #[],YW YT] w λe k=>e=YX (I J (Lib.idxFunc vB YT (bs l)))/\Y6 w.heap.size w k:=by
 have f:=aj l;have c:=Any7.bytes_indexFunc (P:=Ys) Tryz.lays755 162 #[] (λb w=>enters_of func162 rfl rfl b w) vB YT (bs l) g 0 a w (by omega) (by omega) h.at i (λW x j _=>KG x W j);rw [f] at c;exact c
theorem uz(l:QF)(g a:Nat)(w:QI)(h:sy w g l)(b:l.length<=a)(o:l.length<=1048576)(f:Lib.Utf8Tabs 2 3 w):Y8 Ys 161 #[L (S ⟨g,0,N⟩) l.length a,.func (.func 162) #[] #[]] w λe i=>e=YX (YW (l.any lf))/\Y6 w.heap.size w i:=by
 have j:=K (qj l g a w h b o f)
 have c:Y8 Ys 224 #[L (S ⟨g,0,N⟩) l.length a,.func (.func 162) #[] #[]] w λe i=>e=YX (I J (Lib.idxFunc vB YT (bs l)))/\Y6 w.heap.size w i:=by
  clear h f;go_enter func224,ntmps224;go_wp2_with fail
  refine j.out.mono ?_;rintro e p ⟨rfl,d⟩;go_wp2_with fail
  go_ret;exact ⟨rfl,d⟩
 have k:H (l.any lf=decide (0<=Lib.idxFunc vB YT (bs l))):=K (by
  have:=Jz l l.length 0 (by omega) (by omega);rw [SY] at this;rw [Ri,decide_eq_true_eq, <-this];unfold Lib.idxFunc
  rw [aj])
 obtain ⟨r,m⟩:=QE (Lib.idxFunc vB YT (bs l));rw [m] at c k;have n:=K c;clear h f c j m;go_enter func161,ntmps161;go_wp2_with fail
 refine n.out.mono ?_;rintro e p ⟨rfl,d⟩;go_wp2_with fail
 go_ret;exact ⟨by rw [k.out];rfl,d⟩
theorem sn{c:QI}{k:Nat}{a b x y:QJ}{t:Za}(h:c.heap[k]? =S (YU #[a,b] t (0,0))):((c.setCell ⟨k,0,N⟩ x).setCell ⟨k,1,N⟩ y).cell? ⟨k,0,N⟩=S x/\((c.setCell ⟨k,0,N⟩ x).setCell ⟨k,1,N⟩ y).cell? ⟨k,1,N⟩=S y/\aA k c ((c.setCell ⟨k,0,N⟩ x).setCell ⟨k,1,N⟩ y):=by
 have e:=Ro c k 0 _ _ x h;have d:=Ro _ k 1 _ _ y e;exact ⟨Q3 d _,Q3 d _,((aA.refl _ _).setCell _).setCell _⟩
def bu(l:QF):QF×Bool:=if 100 < l.length || l.any lf then ([],YT) else (l,F)
theorem Fg(l:QF)(g c:Nat)(w:QI)(h:sy w g l)(s:l.length<=c)(U:l.length<=1048576)(u:Lib.Utf8Tabs 2 3 w):Y8 Ys 105 #[L (S ⟨g,0,N⟩) l.length c] w λe V=>e=YX (.agg #[T (bs (bu l).1),YW (bu l).2])/\Y6 w.heap.size w V:=by
 obtain ⟨M,i⟩:=QE (w.alloc (YU #[T ⟨#[]⟩,YW F] 120));have n:=QG i;have E:=QH i;have o:=K (uz l g c M (h.below n) s U (Utf8Tabs_below u n));have G:=K (h.below n);have f:=K n;have r:=K E;have q:=K i;clear i n E
 by_cases d:100 < l.length
 .have p:H (bu l=([],YT)):=K (by unfold bu;rw [decide_eq_true d];rfl);have R:(100:Int) < (l.length:Int):=by omega
  clear h u o;go_enter WL,ntmps105;go_wp2_with fail
  have X:=heap_alloc_new w (YU #[T ⟨#[]⟩,YW YT] 120);have z:(w.alloc (YU #[T ⟨#[]⟩,YW YT] 120)).cell? ⟨w.heap.size,0,N⟩=S (T ⟨#[]⟩):=Q3 X _;have A:(w.alloc (YU #[T ⟨#[]⟩,YW YT] 120)).cell? ⟨w.heap.size,1,N⟩=S (YW YT):=Q3 X _;refine Ru (v:= .agg #[T ⟨#[]⟩,YW YT]) (by simp [results,results105,go_sem,z,A]) rfl ?_;exact ⟨by rw [p.out];rfl,(QQ _ _).alloc (QR _) _⟩
 have R:¬(100:Int) < (l.length:Int):=by omega
 cases m:l.any lf
 case true=>
  have p:H (bu l=([],YT)):=K (by unfold bu;rw [m,Sz];rfl);rw [m] at o;clear h u m;go_enter WL,ntmps105;go_wp2_with fail
  rw [q.out];refine o.out.mono ?_;rintro e t ⟨rfl,a⟩;have b:=ae a r.out;have z:t.cell? ⟨w.heap.size,0,N⟩=S (T ⟨#[]⟩):=Q3 b _;have A:t.cell? ⟨w.heap.size,1,N⟩=S (YW F):=Q3 b _;have O:=RJ b 0;have P:=RJ b 1;have k:=K b;have j:=K (f.out.trans (a.mono f.out.size));clear b a;go_wp2_with fail
  obtain ⟨B,C,D⟩:=sn (x:=T ⟨#[]⟩) (y:=YW YT) k.out;refine Ru (v:= .agg #[T ⟨#[]⟩,YW YT]) (by simp [results,results105,go_sem,B,C]) rfl ?_;exact ⟨by rw [p.out];rfl,j.out.trans (D.below (QR _))⟩
 have p:H (bu l=(l,F)):=K (by unfold bu;rw [m,decide_eq_false d];rfl);rw [m] at o;clear h u m;go_enter WL,ntmps105;go_wp2_with fail
 rw [q.out];refine o.out.mono ?_;rintro e t ⟨rfl,a⟩;have Q:=(G.out.below a).string (cap:=c);have b:=ae a r.out;have z:t.cell? ⟨w.heap.size,0,N⟩=S (T ⟨#[]⟩):=Q3 b _;have A:t.cell? ⟨w.heap.size,1,N⟩=S (YW F):=Q3 b _;have O:=RJ b 0;have P:=RJ b 1;have k:=K b;have j:=K (f.out.trans (a.mono f.out.size));clear b a;go_wp2_with fail
 obtain ⟨B,C,D⟩:=sn (x:=T (bs l)) (y:=YW F) k.out;refine Ru (v:= .agg #[T (bs l),YW F]) (by simp [results,results105,go_sem,B,C]) rfl ?_;exact ⟨by rw [p.out],j.out.trans (D.below (QR _))⟩
def vm(l:QF)(B k:Nat)(w w':QI):Prop:=
 Y6 B w w'/\B < w'.heap.size/\(∀j:Nat,j < l.length->w'.cell? ⟨B,j,N⟩=S (I .u8 (((if j < k then Lib.upperB (l.getD j 0) else l.getD j 0).toNat:Nat):Int)))/\∀j:Nat,j < l.length->w'.frozen? ⟨B,j,N⟩=F
theorem Ew(s:QL)(w:QI):∃b d,(convert 9 100 (T s)).run Ys w= .ok (L (S ⟨w.heap.size,0,N⟩) s.size b) d/\vm s.data.toList w.heap.size 0 w d:=by
 refine ⟨_,_,run_bytes_of_string w 9 100 5 s underlying9 underlying100 underlying5,?_,?_,?_,?_⟩
 .exact (QQ _ _).drew.alloc (by simp) _
 .simp
 .intro j a;have c:=World.cell?_alloc_mark w.drew (bytesRow s (grownCap w s.size 0 5)) 5 ((bytesRow s (grownCap w s.size 0 5)).size,(bytesRow s (grownCap w s.size 0 5)).size+1) j;refine c.trans ?_;rw [bytesRow_at s _ j (by simpa using a)];rw [if_neg (by omega),Q5,Re a];rfl
 intro j a;have c:=World.frozen?_alloc_mark w.drew (bytesRow s (grownCap w s.size 0 5)) 5 (bytesRow s (grownCap w s.size 0 5)).size ((bytesRow s (grownCap w s.size 0 5)).size+1) j;refine c.trans ?_
 have:j < (bytesRow s (grownCap w s.size 0 5)).size:=by
  have:j < s.data.size:=by simpa using a
  unfold bytesRow;rw [Array.size_append,Array.size_map];omega
 rw [Bool.and_eq_false_iff]
 left
 simp;omega
theorem GY{l:QF}{B k:Nat}{w b:QI}(h:vm l B k w b)(f:k < l.length)(c:Lib.upperB (l.getD k 0)=l.getD k 0):vm l B (k+1) w b:=by
 refine ⟨h.1,h.2.1,λj d=>?_,h.2.2.2⟩;rw [h.2.2.1 j d]
 by_cases e:j=k
 .subst e;rw [if_neg (by omega),if_pos (by omega),c]
 by_cases a:j < k
 .rw [if_pos a,if_pos (by omega)]
 rw [if_neg a,if_neg (by omega)]
theorem J8{l:QF}{B k:Nat}{w c:QI}(h:vm l B k w c)(f:k < l.length)(v:Int)(d:((Lib.upperB (l.getD k 0)).toNat:Int)=v):vm l B (k+1) w (c.setCell ⟨B,k,N⟩ (I .u8 v)):=by
 refine ⟨h.1.setCell (QR _) _,by simpa using h.2.1,λj a=>?_,λj a=>by simpa using h.2.2.2 j a⟩
 by_cases e:j=k
 .subst e;rw [World.cell?_setCell_same _ _ _ (h.2.2.1 j a),if_pos (by omega),d]
 rw [World.cell?_setCell_other _ _ _ _ (by intro h;injection h with _ h;exact e h.symm),h.2.2.1 j a]
 by_cases b:j < k
 .rw [if_pos b,if_pos (by omega)]
 rw [if_neg b,if_neg (by omega)]
theorem GG{c:UInt8}(h:¬(97<=(c.toNat:Int)/\(c.toNat:Int)<=122)):Lib.upperB c=c:=by
 unfold Lib.upperB Lib.isLowerB;rw [if_neg];simp only [Rk,decide_eq_true_eq,UInt8.le_iff_toNat_le];intro a;apply h;have b:(97:UInt8).toNat=97:=rfl;have d:(122:UInt8).toNat=122:=rfl;omega
theorem Cw{c:UInt8}(h:97<=(c.toNat:Int)/\(c.toNat:Int)<=122):((Lib.upperB c).toNat:Int)=(c.toNat:Int) - 32:=by
 unfold Lib.upperB Lib.isLowerB;have a:(97:UInt8).toNat=97:=rfl;have b:(122:UInt8).toNat=122:=rfl;rw [if_pos]
 .have d:(32:UInt8).toNat=32:=rfl;rw [UInt8.toNat_sub];omega
 simp only [Rk,decide_eq_true_eq,UInt8.le_iff_toNat_le];omega
theorem GX(s:QL)(b:Nat)(w c:QI)(B:Nat)(h:vm s.data.toList B s.size w c):(convert 100 9 (L (S ⟨B,0,N⟩) s.size b)).run Ys c= .ok (T ⟨(Lib.toUpperA s.data.toList).toArray⟩) c:=by
 refine ib c B b s.size (Lib.toUpperA s.data.toList) (by simp [Lib.toUpperA]) (λj e=>?_);have a:j < s.data.toList.length:=by rw [ag];exact e
 have d:=h.2.2.1 j a;rw [if_pos e] at d;rw [d,Q5,Re a,Lib.toUpperA,Q5,List.getElem?_map,Re a];rfl
theorem kM(s:QL)(w:QI)(z:s.size<=Y7):Y8 Ys 125 #[T s] w λe o=>e=YX (T ⟨(Lib.toUpperA s.data.toList).toArray⟩)/\Y6 w.heap.size w o:=by
 unfold maxLen at z;obtain ⟨g,C,d,r⟩:=Ew s w;have t:=K r;clear r;go_enter func125,ntmps125;go_wp2
 clear d;go_loopw [4] (λi o=>∃k:Nat,k<=s.size/\i=I J k/\vm s.data.toList w.heap.size k w o) (λi _=>s.size - (Y9 i).toNat)
 case atStart=>exact ⟨0,QS _,rfl,t.out⟩
 case round=>
  obtain ⟨k,D,rfl,b⟩:=hrel
  by_cases m:k < s.size
  .have a:k < s.data.toList.length:=by rw [ag];exact m
   obtain ⟨c,j⟩:=QE (s.data.toList.getD k 0);have l:=b.2.2.1 k a;rw [if_neg (Nat.lt_irrefl k),j] at l;have y:=b.2.2.2 k a;have q:=K b;have p:=K j;clear b j
   by_cases n:97<=(c.toNat:Int)/\(c.toNat:Int)<=122
   .have x:=K n;obtain ⟨A,B⟩:=n;go_wp2
    go_roundw
    case rel=>exact ⟨k+1,by omega,by go_num,J8 q.out a _ (by rw [p.out,Cw x.out])⟩
    case measure=>simp [Y9];omega
   have v:H (Lib.upperB (s.data.toList.getD k 0)=s.data.toList.getD k 0):=by
    show _=_;rw [p.out,GG n]
   go_wp2
   all_goals
    go_roundw
    case rel=>exact ⟨k+1,by omega,by go_num,GY q.out a v.out⟩
    case measure=>simp [Y9];omega
  have f:k=s.size:=by omega
  rw [f] at b;have h:=GX s g w _ w.heap.size b;clear f;have u:=K b.1;clear b;go_wp2
  go_ret;exact ⟨rfl,u.out⟩
def uB(l:QF):Nat:=l.foldl (λn c=>10 * n+(c.toNat - 48)) 0
def jd(l:QF):Option Nat:=
 if l.length < 7 || decide (15 < l.length) || !(Lib.toUpperA (l.take 6) == [32,83,73,90,69,61]) || ((l.getD 6 0 == 48) && decide (7 < l.length)) then N
 else if (l.drop 6).all (λc=>dX c.toNat) then S (uB (l.drop 6)) else N
def NN(o:Option Nat):QJ:=match o with | none=>YY #[I J 0,YW F] | some n=>YY #[I J (n:Int),YW YT]
theorem Kg(l:QF)(b:UInt8):uB (l++[b])=10 * uB l+(b.toNat - 48):=by unfold uB;rw [List.foldl_append];rfl
theorem wh{b:UInt8}(h:dX (b.toNat:Int)=YT):48<=b.toNat/\b.toNat<=57:=by
 unfold dX at h;simp only [Rk,decide_eq_true_eq] at h;omega
theorem Jv:∀(l:QF) (a m:Nat),l.all (λc=>dX c.toNat)=YT->a < 10 ^ m->l.foldl (λn c=>10 * n+(c.toNat - 48)) a < 10 ^ (m+l.length)
 | [],a,m,_,h=>h
 | b::r,a,m,h,ha=>by
  rw [List.all_cons,Rk] at h;have d:=wh h.1;have:=Jv r (10 * a+(b.toNat - 48)) (m+1) h.2 (by rw [Nat.pow_succ];omega);rw [List.length_cons,show m+(r.length+1)=m+1+r.length by omega]
  exact this
theorem Ow(l:QF)(h:l.all (λc=>dX c.toNat)=YT):uB l < 10 ^ l.length:=by
 have:=Jv l 0 0 h (by decide);rw [TD] at this;exact this
theorem Gh(l:QF)(w:QI)(hl:l.length<=140737488355328):Y8 Ys 250 #[T (bs l)] w λe W=>e=YX (NN (jd l))/\Y6 w.heap.size w W:=by
 have hz:=aj l
 by_cases a1:l.length < 7
 .have f:H (jd l=N):=K (by unfold jd;rw [if_pos (by simp;omega)]);have E:(l.length:Int) < 7:=by omega
  go_enter Xm,ntmps250;go_wp2_with fail
  go_ret2
  rw [f.out];exact ⟨rfl,QQ _ _⟩
 have E:¬(l.length:Int) < 7:=by omega
 by_cases a2:15 < l.length
 .have f:H (jd l=N):=K (by unfold jd;rw [if_pos (by simp;omega)]);have G:(15:Int) < (l.length:Int):=by omega
  go_enter Xm,ntmps250;go_wp2_with fail
  go_ret2
  rw [f.out];exact ⟨rfl,QQ _ _⟩
 have G:¬(15:Int) < (l.length:Int):=by omega
 have Z:(bs l).extract 0 6=bs (l.take 6):=by rw [bR,SY]
 have X:=kM (bs (l.take 6)) w (by rw [aj];rw [Sm];unfold maxLen;omega);have a8:6 < (bs l).size:=by omega
 obtain ⟨m,o⟩:=QE (l.getD 6 0);have a7:(bs l)[6]=m:=by rw [<-o,ot l 6 (by omega),Q5,Re (by omega)];rfl
 have i:=K o;clear o;obtain ⟨U,M⟩:=QE (Lib.toUpperA (l.take 6));have x:H (Y8 Ys 125 #[T ((bs l).extract 0 6)] w λe W=>e=YX (T (bs U))/\Y6 w.heap.size w W):=K (by rw [<-M,Z];exact X);have C:=K M;clear X M Z;go_enter Xm,ntmps250;go_wp2_with fail
 refine x.out.mono ?_;rintro e w1 ⟨rfl,t⟩;have g:=K t;clear t
 by_cases s:U=[32,83,73,90,69,61]
 case neg=>
  have f:H (jd l=N):=K (by unfold jd;rw [if_pos];rw [C.out];simp [s]);have b0:((bs U).toList == [32,83,73,90,69,61])=F:=by rw [beq_eq_false_iff_ne,ByteArray.toList_eq,ao];exact s
  go_wp2_with fail
  go_ret2
  rw [f.out];exact ⟨rfl,g.out⟩
 case pos=>
 have a6:((bs U).toList == [32,83,73,90,69,61])=YT:=by rw [beq_iff_eq,ByteArray.toList_eq,ao];exact s
 have D:=K s;clear s
 by_cases a:m=48/\7 < l.length
 .have f:H (jd l=N):=K (by
   unfold jd;rw [if_pos];simp only [Ty,Rk,decide_eq_true_eq,beq_iff_eq]
   exact .inr ⟨by rw [i.out];exact a.1,a.2⟩)
  have r:(m.toNat:Int)=48:=by rw [a.1];rfl
  have e7:(7:Int) < (l.length:Int):=by omega
  go_wp2_with fail
  go_ret2
  rw [f.out];exact ⟨rfl,g.out⟩
 have f:H (jd l=if (l.drop 6).all (λc=>dX c.toNat) then S (uB (l.drop 6)) else N):=K (by
  unfold jd;rw [if_neg];rw [C.out,D.out,i.out];simp only [Ty,Rk,decide_eq_true_eq,beq_iff_eq,not_or]
  refine ⟨⟨⟨by omega,by omega⟩,by simp⟩,λe=>a e⟩)
 have R:(m.toNat:Int)=48/\(l.length:Int)<=7\/¬(m.toNat:Int)=48:=by
  by_cases e:m.toNat=48
  .refine .inl ⟨by omega,?_⟩
   have:m=48:=UInt8.toNat_inj.1 (by rw [e];rfl);have:¬7 < l.length:=λh=>a ⟨this,h⟩;omega
  exact .inr (by omega)
 clear a C i
 rcases R with ⟨r,e7⟩ | r
 all_goals
  go_wp2_with fail
  go_loop [4,5,6] (λnv V _=>∃k:Nat,6<=k/\k<=l.length/\V=I J (k:Int)/\nv=I J ((uB ((l.take k).drop 6):Nat):Int)/\H (((l.take k).drop 6).all (λc=>dX c.toNat)=YT)) (λ_ V _=>l.length - (Y9 V).toNat)
  case atStart=>exact ⟨6,QR _,by omega,rfl,by simp [uB],K (by simp)⟩
  case round=>
   obtain ⟨k,a3,hk,rfl,rfl,B⟩:=hrel
   by_cases q:k < l.length
   .have a4:(k:Int) < (l.length:Int):=by omega
    obtain ⟨b,u⟩:=QE (l[k]);have a9:k < (bs l).size:=by omega
    have a0:(bs l)[k]=b:=(ot l k q).trans u;have y:=K (dv (b.toNat:Int) w1)
    have HT:H ((l.take (k+1)).drop 6=(l.take k).drop 6++[b]):=K (by
     rw [QV q,List.drop_append_of_le_length (by rw [Sm];omega),u])
    have HM:H (b∈l.drop 6):=K (by
     rw [<-u,List.mem_iff_getElem?]
     exact ⟨k - 6,by rw [List.getElem?_drop,show 6+(k - 6)=k by omega,Re q]⟩)
    clear u
    have Q:uB ((l.take k).drop 6) < 1000000000:=by
     have h1:=Ow _ B.out;have h2:((l.take k).drop 6).length<=9:=by rw [List.length_drop,Sm];omega
     have h3:10 ^ ((l.take k).drop 6).length<=10 ^ 9:=Nat.pow_le_pow_right (by decide) h2;omega
    obtain ⟨n,P⟩:=QE (uB ((l.take k).drop 6));rw [P] at Q ⊢;have HE:=K P;clear P;have a5:=b.toNat_lt;obtain ⟨d,O⟩:=QE (dX (b.toNat:Int));rw [O] at y;have j:=K O;clear O
    cases d
    case false=>
     have A:H (jd l=N):=K (by
      rw [f.out,if_neg];intro e;have:=List.all_eq_true.1 e b HM.out;rw [j.out] at this
      cases this)
     go_wp2_with fail
     refine y.out.mono ?_;rintro e w2 ⟨rfl,rfl⟩;go_wp2_with fail
     go_ret2
     rw [A.out];exact ⟨rfl,g.out⟩
    have hr:=wh j.out;obtain ⟨v,Y⟩:=QE (b.toNat - 48);have b1:IntKind.u8.wrap ((b.toNat:Int) - 48)=(v:Int):=by rw [IntKind.wrap_u8];omega
    have b2:IntKind.i64.wrap (v:Int)=(v:Int):=by rw [QY];omega
    have b3:IntKind.i64.wrap (10 * (n:Int))=10 * (n:Int):=by rw [QY];omega
    have b4:IntKind.i64.wrap (10 * (n:Int)+(v:Int))=10 * (n:Int)+(v:Int):=by rw [QY];omega
    have z:=K Y;clear Y;go_wp2_with fail
    refine y.out.mono ?_;rintro e w2 ⟨rfl,rfl⟩;go_wp2_with fail
    exact ⟨⟨k+1,by omega,by omega,by go_num,by rw [HT.out,Kg,HE.out,z.out];go_num,K (by rw [HT.out,List.all_append,B.out];simp [j.out])⟩,by simp [Y9];omega⟩
   have p:k=l.length:=by omega
   have A:H (jd l=S (uB ((l.take k).drop 6))):=K (by
    have:=B.out;rw [p,QZ] at this
    rw [f.out,if_pos this,p,QZ])
   clear p;go_wp2_with fail
   go_ret2
   rw [A.out];exact ⟨rfl,g.out⟩
theorem KP(l:QF):(bu l).2=(l.any lf || decide (100 < l.length)):=by
 unfold bu
 split
 .rename_i h
  simp only [Ty,decide_eq_true_eq] at h
  symm
  simp only [Ty,decide_eq_true_eq];exact h.symm
 rename_i h
 simp only [Ty,decide_eq_true_eq,not_or] at h
 symm
 simp only [TL,decide_eq_false_iff_not];exact ⟨by simpa using h.2,h.1⟩
theorem qC(l:QF)(w:QI)(q:l.length<=140737488355328):Y8 Ys 120 #[T (bs l)] w λe o=>e=YX (YW (bu l).2)/\w=o:=by
 have r:=aj l;rw [KP];go_enter func120,ntmps120;go_wp2_with fail
 go_loop [3] (λi=>∃k:Nat,k<=l.length/\i=I J k/\H ((l.take k).any lf=F)) (λi=>l.length - (Y9 i).toNat)
 case atStart=>exact ⟨0,QS _,rfl,K rfl⟩
 case round=>
  obtain ⟨k,p,rfl,f⟩:=hrel
  by_cases b:k < l.length
  .have g:(k:Int) < (l.length:Int):=by omega
   have n:k < (bs l).size:=by omega
   have a:(bs l)[k]=l[k]:=ot l k b
   have HT:H (lf (bs l)[k]=YT->(l.any lf || decide (100 < l.length))=YT):=K (λe=>by
    rw [Ty]
    exact .inl (List.any_eq_true.2 ⟨l[k],QU b,by rw [<-a];exact e⟩))
   have j:H (lf (bs l)[k]=F->(l.take (k+1)).any lf=F):=K (λe=>by
    rw [a] at e;refine (congrArg (λx=>List.any x lf) (QV b)).trans ?_;refine List.any_append.trans ?_;rw [f.out];show (F || (lf (l[k]'b) || F))=F;have m:lf (l[k]'b)=F:=e;rw [m]
    rfl)
   clear a;go_wp2_with fail
   all_goals
    first
     | (go_ret
        refine ⟨?_,rfl⟩
        have d:lf (bs l)[k]=YT:=(by
         unfold lf;simp only [Ty,decide_eq_true_eq]
         try simp only [beq_iff_eq] at *
         omega)
        rw [HT.out d]
        rfl)
     | (have d:lf (bs l)[k]=F:=(by
         unfold lf;simp only [TL,decide_eq_false_iff_not]
         try simp only [beq_eq_false_iff_ne] at *
         omega)
        exact ⟨⟨k+1,by omega,by go_num,K (j.out d)⟩,by simp [Y9];omega⟩)
  have c:k=l.length:=by omega
  have h:H ((l.any lf || decide (100 < l.length))=decide ((100:Int) < (l.length:Int))):=K (by
   have:=f.out;rw [c,QZ] at this;rw [this,Q6];simp only [decide_eq_decide]
   omega)
  clear c;go_wp2_with fail
  go_ret;exact ⟨by rw [h.out];rfl,rfl⟩
end Go.Proofs.YtponhohdpophlaaGreatDoor
