import Derived.Test.YtponhohdpophlaaGreatDoorS10
namespace Go.Proofs.YtponhohdpophlaaGreatDoor
set_option maxHeartbeats 8000000
set_option maxRecDepth 1000000
open Go.Ending renaming returned->YX
open Go.IntKind renaming i64->J
open Go.Lib renaming cell_of_heap->Q3,toList_data->SF
open Go.RowKit renaming Hid->H,Below->Y6,intOf->Y9
open Go.RowKit.Below renaming refl->QQ
open Go.Value renaming int->I,slice->L,string->T,pointer->YV,bool->YW
open _root_.Bool renaming false->F,and_eq_true->Rk,true->YT
open _root_.List renaming getD_eq_getElem?_getD->Q5,getElem_mem->QU,take_succ_eq_append_getElem->QV,take_length->QZ,getElem?_eq_getElem->Re,getElem?_map->TV
open _root_.Option renaming none->N,some->S
open Go.Proofs.Tryz
open Go.RowKit
def qi(s:QL):Prop:=∀(j:Nat) (b:UInt8),s.data.toList[j]? =S b->b.toNat < 128
def mP(dom:QL)(d:QL):Bool:=Lib.equalFold d.data.toList dom.data.toList
theorem Kh(d a:QL)(g:Nat)(w:QI)(i:w.cell? ⟨g,0,N⟩=S (T a))(j:d.size<=255)(c:qi d)(f:qi a):Calls prog 311 #[T d,YV (S ⟨g,0,N⟩)] w λe b=>e=YX (YW (mP a d))/\Y6 w.heap.size w b:=by
 have h:H (∀W:QI,Calls prog 283 #[T d,T a] W λe b=>e=YX (YW (Lib.equalFold d.data.toList a.data.toList))/\b=W):=K (λW=>Tryz.strings_EqualFold d a W (by omega) c f);clear c f;go_enter func311,ntmps311;go_wp2_with fail
 refine (h.out _).mono ?_;rintro e k ⟨rfl,rfl⟩;go_wp2_with fail
 go_ret;exact ⟨rfl,QQ _ _⟩
theorem vA{l:List QL}{p:QL->Bool}{k:Nat}(h:k < l.length)(a:(l.take k).any p=F)(b:p l[k]=F):(l.take (k+1)).any p=F:=by
 rw [QV h,List.any_append,a];simp [b]
theorem wC(l:List QL)(v:QJ)(u:Nat)(a:QL)(w:QI)(W:bg w v l.length 1 (bA l))(R:w.cell? ⟨u,0,N⟩=S (T a))(hl:l.length<=5)(X:∀d∈l,d.size<=255/\qi d)(P:qi a):Calls prog 336 #[v,.func (.func 311) #[] #[YV (S ⟨u,0,N⟩)]] w λe E=>∃r:Int,e=YX (I J r)/\(-1<=r/\r<=255)/\decide (0<=r)=l.any (mP a)/\Y6 w.heap.size w E:=by
 obtain ⟨av,cv,rfl,h⟩:=W.one;have Z:=K h;have G:=K R;have HZ:=K X;have Y:=K P;obtain ⟨s,V⟩:=QE w.heap.size;have f:=K V;clear W V R h X P;go_enter func336,ntmps336;go_wp2_with fail
 go_loopw [5,8] (λ_ i E=>∃k:Nat,k<=l.length/\i=I J k/\H ((l.take k).any (mP a)=F)/\H (Y6 s w E)) (λ_ i _=>l.length - (Y9 i).toNat)
 case atStart=>exact ⟨0,Nat.zero_le _,rfl,K rfl,K (by rw [<-f.out];exact QQ _ _)⟩
 case round=>
  obtain ⟨k,hk,rfl,y,o⟩:=hrel
  by_cases j:k < l.length
  .have U:(k:Int) < (l.length:Int):=by omega
   obtain ⟨g,D,rfl,B,A⟩:=Z.out k j;rw [bA,TV,Re j] at A;have d0:wr.cell? ⟨g,D+k,N⟩=S (T l[k]):=(o.out.cell (by show g < s;rw [<-f.out];exact B)).trans A;have M:wr.cell? ⟨u,0,N⟩=S (T a):=(o.out.cell (by show u < s;rw [<-f.out];exact au G.out)).trans G.out;have q:H (∀b:Bool,mP a l[k]=b->(b=YT->l.any (mP a)=YT)/\(b=F->(l.take (k+1)).any (mP a)=F)):=K (λb Q=>⟨λe=>List.any_eq_true.2 ⟨_,QU j,by rw [Q,e]⟩,λe=>vA j y.out (by rw [Q,e])⟩);have m:=HZ.out l[k] (QU j);obtain ⟨x,O⟩:=QE (l[k]);rw [O] at d0 q m;have c:=K (Kh x a u wr M m.1 m.2 Y.out);have t:s<=wr.heap.size:=by have:=o.out.size;have:=f.out;omega
   clear O A M y m
   cases p:mP a x
   case true=>
    have z:=K ((q.out YT p).1 rfl);rw [p] at c;clear q p;go_wp2_with (first | (go_at_call 311;refine c.out.mono ?_;rintro e w2 ⟨rfl,n⟩) | fail)
    go_ret;exact ⟨_,rfl,by omega,by rw [z.out];simp,by rw [f.out];exact o.out.trans (n.mono t)⟩
   have z:=K ((q.out F p).2 rfl);rw [p] at c;clear q p;go_wp2_with (first | (go_at_call 311;refine c.out.mono ?_;rintro e w2 ⟨rfl,n⟩) | fail)
   exact ⟨⟨k+1,by omega,by go_num,z,K (o.out.trans (n.mono t))⟩,by simp [Y9];omega⟩
  have C:k=l.length:=by omega
  subst C;rw [QZ] at y;go_wp2_with fail
  go_ret;exact ⟨_,rfl,by omega,by rw [y.out];rfl,by rw [f.out];exact o.out⟩
theorem qY(l:List QL)(v:QJ)(b:Nat)(a:QL)(w:QI)(i:bg w v l.length 1 (bA l))(f:w.cell? ⟨b,0,N⟩=S (T a))(o:l.length<=5)(j:∀d∈l,d.size<=255/\qi d)(c:qi a):Calls prog 310 #[v,.func (.func 311) #[] #[YV (S ⟨b,0,N⟩)]] w λe k=>e=YX (YW (l.any (mP a)))/\Y6 w.heap.size w k:=by
 have h:=wC l v b a w i f o j c;clear i f j c;go_enter func310,ntmps310;go_wp2_with fail
 refine h.mono ?_;rintro e k ⟨r,rfl,p,g,n⟩;have m:=K g;clear g h;go_wp2_with fail
 go_ret;exact ⟨by rw [<-m.out];rfl,n⟩
theorem Ac{l:QF}(h:∀(j:Nat) (b:UInt8),l[j]? =S b->b.toNat < 128):∀(j:Nat) (b:UInt8),(Lib.toLowerA l)[j]? =S b->b.toNat < 128:=by
 intro j b c;unfold Lib.toLowerA at c;rw [TV,Option.map_eq_some_iff] at c;obtain ⟨a,e,rfl⟩:=c;have:=h j a e;unfold Lib.lowerB
 split
 .rename_i d
  unfold Lib.isUpperB at d;simp only [Rk,decide_eq_true_eq,UInt8.le_iff_toNat_le,UInt8.reduceToNat] at d;rw [UInt8.toNat_add];simp only [UInt8.reduceToNat];omega
 exact this
theorem GM{l x y:QF}{f:Bool}(h:dn l=(x,y,f)):∀(j:Nat) (b:UInt8),y[j]? =S b->b.toNat < 128:=by
 unfold dn at h
 split at h
 .rename_i a
  rw [Rk] at a;injection h with _ h;injection h with h _;rw [<-h];exact Ac (sJ _ a.2)
 injection h with _ h;injection h with h _;rw [<-h];intro j b c;simp at c
theorem MZ{c:bF}(h:dk c=YT):∀d∈c.xf,d.size<=255/\qi d:=by
 have e:=gI h;unfold dk mK lN jy jz at h;simp only [Rk,decide_eq_true_eq,List.all_eq_true] at h;obtain ⟨⟨⟨⟨⟨⟨⟨⟨f,g,b⟩,_⟩,_⟩,_⟩,_⟩,_⟩,_⟩,_⟩:=h;exact λd a=>⟨e.yK d a,sJ _ (b d a)⟩
def iJ(c:bF)(name:QF):Bool:=(dn name).2.2 && c.xf.any (mP (bs (dn name).2.1))
theorem uF(c:bF)(X Y Z vW:QJ)(a:QF)(m:Int)(w:QI)(h:dD w c X Y Z vW)(V:dk c=YT)(hn:a.length<=1048576)(B:w.cell? ⟨0,0,N⟩=S (I J m)):Calls prog 275 #[.agg #[T c.host,X,Y,Z,I J c.most,I J c.size,vW,I J c.xm,I J c.room],T (bs a)] w λe w'=>e=YX (YW (iJ c a))/\Y6 w.heap.size w w':=by
 obtain ⟨P,R,eD⟩:=az h.1;obtain ⟨aN,cN,eN⟩:=az h.2.1;obtain ⟨aU,cU,eU⟩:=az h.2.2.1;obtain ⟨aW,cW,eW⟩:=az h.2.2.2;subst eD eN eU eW;obtain ⟨G,g⟩:=QE (w.alloc (.cells #[T c.host,L P c.xf.length R,L aN c.xe.length cN,L aU c.x9.length cU,I J c.most,I J c.size,L aW c.waits.length cW,I J c.xm,I J c.room] 35));have q:=QG g;have M:=QH g;have a0:=aj a;have l:=K M;have k:=K q;have v:=K g;have D:=K h.1;have u:=K V;have W:G.cell? ⟨0,0,N⟩=S (I J m):=(q.cell (by exact au B)).trans B;have E:=K (FI (bs a) m G (by omega) W);clear h q M g B V W;go_enter func275,ntmps275;go_wp2_with fail
 rw [v.out];refine E.out.mono ?_;rintro e C ⟨x,y,f,rfl,U,j⟩;have d:H (dn a=(x.data.toList,y.data.toList,f)):=K (by rw [<-U,ao]);have b:=K ((k.out.trans (j.mono k.out.size)));have n:=K (ae j l.out);clear U j l E
 cases f
 case false=>
  have t:H (iJ c a=F):=K (by unfold iJ;rw [d.out];rfl);go_wp2_with fail
  go_ret;exact ⟨by rw [t.out];rfl,b.out.alloc b.out.size _⟩
 have t:H (iJ c a=c.xf.any (mP y)):=K (by unfold iJ;rw [d.out];simp only [Bool.true_and];congr 1);obtain ⟨z,o⟩:=QE (C.alloc (.cells #[T y] 9));have r:=QG o;have O:=QH o;have Q:z.cell? ⟨C.heap.size,0,N⟩=S (T y):=Q3 O _;have p:=ae r n.out;have y1:z.cell? ⟨w.heap.size,1,N⟩=S (L P c.xf.length R):=Q3 p _;have i:=K (b.out.trans (r.mono b.out.size));have s:=K (qY c.xf _ C.heap.size y z (D.out.below i.out) Q (gI u.out).xf (MZ u.out) (GM d.out));clear r O Q p D u d n;go_wp2_with (first | (go_at_call 310;refine s.out.mono ?_;rintro e w9 ⟨rfl,A⟩) | fail)
 go_ret;exact ⟨by rw [t.out];rfl,i.out.trans (A.mono i.out.size)⟩
def qJ(o:Option Nat)(K V:Nat):Nat:=match o with | some q=>if q < K then (64 * V+q) % 65536 else V | none=>V
def pI(o:Option Nat)(K N:Nat):Nat:=match o with | some q=>if q < K then N+6 else N | none=>N
theorem Pk{o:Option Nat}{a V N:Nat}(h:o=S a):qJ o a V=V/\pI o a N=N/\qJ o (a+1) V=(64 * V+a) % 65536/\pI o (a+1) N=N+6:=by
 subst h;simp [qJ,pI]
theorem N9{o:Option Nat}{a V N:Nat}(h:o≠S a):qJ o (a+1) V=qJ o a V/\pI o (a+1) N=pI o a N:=by
 cases o with
 | none=>exact ⟨rfl,rfl⟩
 | some q=>
  have:q≠a:=λe=>h (by rw [e])
  by_cases b:q < a
  .simp [qJ,pI,b,show q < a+1 by omega]
  simp [qJ,pI,b,show ¬q < a+1 by omega]
theorem JK(o:Option Nat)(a V:Nat)(h:V<=65535):qJ o a V<=65535:=by
 cases o with
 | none=>exact h
 | some q=>
  unfold qJ
  by_cases b:q < a
  .simp only [b,if_true];omega
  simp only [b,if_false];exact h
theorem JJ(o:Option Nat)(a b:Nat)(h:b<=7):pI o a b<=13:=by
 cases o with
 | none=>show b<=13;omega
 | some q=>
  unfold pI
  by_cases c:q < a
  .simp only [c,if_true];omega
  simp only [c,if_false];omega
theorem Cp(a:Nat)(h:a < 64):r9[a]'h=lk a:=by
 have b:=Hs r9 a h;rw [Gx a h] at b;exact (Option.some.inj b).symm
theorem PQ{c:UInt8}{a:Nat}(b:a < 64)(h:(((r9[a]'b).toNat:Int) == (c.toNat:Int))=YT):gB c=S a:=by
 have h:((r9[a]'b).toNat:Int)=(c.toNat:Int):=by simpa using h
 have:r9[a]'b=c:=UInt8.toNat_inj.1 (by omega);rw [<-this,Cp a b];exact fG a b
theorem OW{c:UInt8}{a:Nat}(b:a < 64)(h:(((r9[a]'b).toNat:Int) == (c.toNat:Int))=F):gB c≠S a:=by
 intro e;have:=(cR e).2;rw [Cp a b,this] at h;simp at h
theorem NW(b:QF)(V a:Nat)(c:UInt8)(e:a<=7):j3 (b,V,a) c=if 8<=pI (gB c) 64 a then (b++[ph (qJ (gB c) 64 V / 2 ^ (pI (gB c) 64 a - 8))],qJ (gB c) 64 V,pI (gB c) 64 a - 8) else (b,qJ (gB c) 64 V,pI (gB c) 64 a):=by
 unfold j3
 cases h:gB c with
 | none=>
  show (b,V,a)=if 8<=a then _ else _;rw [if_neg (by omega)];rfl
 | some q=>
  have d:=(cR h).1;simp only [qJ,pI,d,if_true]
theorem JQ(l:QF)(k:Nat)(h:k < l.length):ux (l.take (k+1))=j3 (ux (l.take k)) (l.getD k 0):=by
 rw [ux,ux,QV h,List.foldl_append,Q5,Re h];rfl
theorem CL(n:Nat)(w:QI)(B:Nat):Y6 B w (w.drewN n):=by
 induction n with
 | zero=>exact QQ _ _
 | succ n ih=>exact ih.trans ((QQ _ _).drew)
theorem pV{w:QI}{a:Nat}{e:TypeId}{v:QJ}{n:Nat}{b:List QJ}:∀(m:Nat),w.ownsRow a e 1 v n b->(w.drewN m).ownsRow a e 1 v n b
 | 0,h=>h
 | m+1,h=>pV m h
theorem OE:(prog.info? 5).map (λi=>(i.zero,i.size,i.bytes))=S (S (I .u8 0),1,1):=by kernel_rfl
theorem J4(V n:Nat):((ph (V / 2 ^ n)).toNat:Int)=(V:Int) / 2 ^ n % 256:=by
 rw [dL,Int.natCast_emod,Int.natCast_ediv,Int.natCast_pow];rfl
theorem GV(a:QF)(c:UInt8):Lib.byteCells (a++[c])=Lib.byteCells a++[I .u8 (c.toNat:Int)]:=by simp [Lib.byteCells]
theorem Kn{a:Nat}(h:8<=a):I J ((a:Int) - 8)=I J ((a - 8:Nat):Int):=congrArg (I J) (by omega)
theorem Mh{w:QI}{a:Nat}{v:QJ}{l:QF}(h:w.ownsRow a 5 1 v l.length (Lib.byteCells l)):(convert 100 9 v).run prog w= .ok (T ⟨l.toArray⟩) w:=by
 rcases h.2 with ⟨rfl,f⟩ | ⟨g,c,b,rfl,p,k,m,n,o,i⟩
 .have:l=[]:=List.length_eq_zero_iff.1 f;subst this;rw [run_convert_bytes_string w 100 9 5 N 0 0 underlying100 underlying5 underlying9];simp [Conv.bytesToString,Sem.run_pure];rfl
 refine ib w g c l.length l rfl (λj e=>?_);rw [Q3 k];have d:(b.toList.take (l.length * 1))[j]? =b.toList[j]? :=List.getElem?_take_of_lt (by omega);rw [i] at d;rw [<-Array.getElem?_toList, <-d,Lib.byteCells,TV,Re e,Q5,Re e];rfl
def qO(l:QF)(w:QI)(e:Ending)(w':QI):Prop:=e=YX (.tuple #[T ⟨(jG l).1.toArray⟩,YW (jG l).2])/\Y6 w.heap.size w w'
theorem qO.mk{l:QF}{w:QI}{e:Ending}{a:QI}(x:QF)(f:Bool)(h:jG l=(x,f))(b:e=YX (.tuple #[T ⟨x.toArray⟩,YW f]))(c:Y6 w.heap.size w a):qO l w e a:=⟨by rw [b,h],c⟩
def Pz(l:QF)(w:QI)(bv v n i:QJ)(w':QI):Prop:=
 ∃(k V N:Nat) (acc:QF),k<=l.length/\i=I J k/\v=I J V/\n=I J N/\N<=7/\V<=65535/\ux (l.take k)=(acc,V,N)/\acc.length<=k/\
  w'.ownsRow w.heap.size 5 1 bv acc.length (Lib.byteCells acc)/\Y6 w.heap.size w w'
theorem AU(s:QL)(w:QI)(hs:s.size<=140737488351232):Calls prog 249 #[T s] w (qO s.data.toList w):=by
 obtain ⟨i0,hi,a8,a9,b0⟩:=info_parts OE;go_enter func249,ntmps249;go_wp2
 go_loopw [4,5,6,7] (λbv v n i w'=>Pz s.data.toList w bv v n i w') (λ_ _ _ i _=>s.size - (Y9 i).toNat)
 case atStart=>exact ⟨0,0,0,[],Nat.zero_le _,rfl,rfl,rfl,by omega,by omega,rfl,by simp,World.ownsRow_nil _ _ _ _,QQ _ _⟩
 case round=>
  obtain ⟨k,V,N,b,hk,rfl,rfl,rfl,hN,hV,x,b1,d,y⟩:=hrel;rw [ag] at hk;have HA:=K x;have HW:=K d;have R:=K y;clear x d y
  by_cases O:k < s.size
  .have hg:H (s.data.toList.getD k 0=s[k]):=iZ s k O;have b4:(k:Int) < (s.size:Int):=by omega
   obtain ⟨o,ho⟩:=QE (gB s[k]);have X:=K ho;clear ho;go_wp2_with fail
   go_loopw [5,6,8] (λv n kv w1=>∃(a f c m:Nat),a<=64/\kv=I J a/\v=I J f/\n=I J c/\H (qJ o a V=f)/\H (pI o a N=c)/\w1=wr.drewN m) (λ_ _ kv _=>64 - (Y9 kv).toNat)
   case atStart=>exact ⟨0,V,N,0,by omega,rfl,rfl,rfl,(by show _=_;cases o <;> simp [qJ]),(by show _=_;cases o <;> simp [pI]),rfl⟩
   case round=>
    obtain ⟨a,f,c,m,hK,rfl,rfl,rfl,A,B,rfl⟩:=hrel
    by_cases E:a < 64
    .have a4:decide ((a:Int) < 64)=YT:=by simp;omega
     have b2:(a:Int) < 64:=by omega
     go_wp2_with fail
     have b3:(f:Int)<=65535:=by have:=JK o a V hV;rw [A.out] at this;omega
     have a2:(c:Int)<=13:=by have:=JJ o a N hN;rw [B.out] at this;omega
     go_region
     go_wp2
     .rename_i r
      have M:=PQ E r;rw [X.out] at M;have q:=Pk (V:=V) (N:=N) M;rw [A.out,B.out] at q;refine ⟨⟨a+1,(64 * f+a) % 65536,c+6,m+1,by omega,by go_num,?_,by go_num,?_,?_,rfl⟩,by simp [Y9];omega⟩
      .exact congrArg (I J) (by omega)
      .show _=_;rw [q.2.2.1,q.1]
      show _=_;rw [q.2.2.2,q.2.1]
     rename_i r
     have M:=OW E r;rw [X.out] at M;have q:=N9 (V:=V) (N:=N) M;exact ⟨⟨a+1,f,c,m+1,by omega,by go_num,rfl,rfl,(by show _=_;rw [q.1,A.out]),(by show _=_;rw [q.2,B.out]),rfl⟩,by simp [Y9];omega⟩
    have a4:decide ((a:Int) < 64)=F:=by simp;omega
    have t:a=64:=by omega
    rw [t] at A B;have D:H (f<=65535):=by show _<=_;have:=JK o 64 V hV;rw [A.out] at this;exact this
    have a2:(c:Int)<=13:=by have:=JJ o 64 N hN;rw [B.out] at this;omega
    have C:H (ux (s.data.toList.take (k+1))=if 8<=c then (b++[ph (f / 2 ^ (c - 8))],f,c - 8) else (b,f,c)):=by
     show _=_;rw [<-A.out, <-B.out, <-X.out, <-NW b V N s[k] hN, <-HA.out,JQ _ k (by rw [ag];exact O),hg.out]
    have g:H (Y6 w.heap.size w (wr.drewN m)):=R.out.trans (CL _ _ _);have z:H ((wr.drewN m).ownsRow w.heap.size 5 1 u4 b.length (Lib.byteCells b)):=pV m HW.out;clear t
    by_cases Z:8<=c
    .have a0:(8:Int)<=(c:Int):=by omega
     have a1:wr.heap.size=(wr.drewN m).heap.size:=by simp
     obtain ⟨W0,G⟩:=QE (wr.drewN m);rw [G] at g z ⊢;clear G a1;have d:=z.out;have hl:=Lib.byteCells_length b
     go_wp2_with (first
      | (at_builtin;refine wpList_append_own _ rfl _ _ 100 rfl w.heap.size 5 i0 (I .u8 0) 1 1 underlying100 hi a8 a9 b0 rfl (by decide) _ _ _ rfl (d.alloc _) ⟨W0.heap.size,0,none⟩ 1 1 [I .u8 ((ph (f / 2 ^ (c - 8))).toNat:Int)] rfl rfl ?c1 ?c2 ?c3 ?c4 ?c5 ?_)
      | fail)
     case c1=>
      intro j u Q
      match j,Q with
      | 0,Q=>
       simp only [List.getElem?_cons_zero,Option.some.injEq] at Q;subst Q;rw [J4 f (c - 8)];simp [Addr.add]
     case c2=>intro u q;simp at q;subst q;rfl
     case c3=>unfold maxLen;omega
     case c4=>omega
     case c5=>have:=g.out.size;simp;omega
     intro v' w1 p l _;have Y:=K p
     have U:H (Y6 w.heap.size w w1):=by
      have a3:Y6 w.heap.size w (W0.alloc (.cells #[I .u8 ((f:Int) / 2 ^ (c - 8) % 256)] 5)):=g.out.alloc g.out.size _;exact a3.grown l (by have:=g.out.size;simp;omega) (λk hk=>(d.lt k hk).1)
     clear p l d hl;go_wp2
     refine ⟨⟨k+1,f,c - 8,b++[ph (f / 2 ^ (c - 8))],by rw [ag];omega,by go_num,rfl,Kn Z,by omega,D.out,?_,by simp;omega,?_,U.out⟩,by simp [Y9];omega⟩
     .rw [C.out,if_pos Z]
     have h:=Y.out;rw [List.length_append,GV];exact h
    have a0:(c:Int) < 8:=by omega
    go_wp2_with fail
    refine ⟨⟨k+1,f,c,b,by rw [ag];omega,by go_num,rfl,rfl,by omega,D.out,?_,by omega,z.out,g.out⟩,by simp [Y9];omega⟩
    rw [C.out,if_neg Z]
  have a6:H (k=s.data.toList.length):=by
   show _=_;rw [ag];omega
  have HL:H ((ux s.data.toList).1=b):=by
   show _=_;have:=HA.out;rw [a6.out,QZ] at this;rw [this]
  have a5:=Mh HW.out
  have P:(⟨b.toArray⟩:QL).size<=140737488355328:=by
   show b.toArray.size<=_;simp;omega
  cases r:((fJ b) == s.data.toList)
  case true=>
   have W:H (jG s.data.toList=(b,YT)):=by
    show _=_;unfold jG;rw [HL.out,if_pos (by simpa using r)]
   have a7:(fJ b == s.toList)=YT:=by
    rw [SF];exact r
   clear r;go_wp2_with (go_at_call 300;refine (uq _ _ P).mono ?_;rintro e w' ⟨rfl,rfl⟩)
   go_ret2
   exact qO.mk _ _ W.out rfl R.out
  have W:H (jG s.data.toList=([],F)):=by
   show _=_;unfold jG;rw [HL.out,if_neg (by simpa using r)]
  have a7:(fJ b == s.toList)=F:=by
   rw [SF];exact r
  clear r;go_wp2_with (go_at_call 300;refine (uq _ _ P).mono ?_;rintro e w' ⟨rfl,rfl⟩)
  go_ret2
  exact qO.mk _ _ W.out rfl R.out
end Go.Proofs.YtponhohdpophlaaGreatDoor
