import Derived.Lib.LaidTab
import Derived.WalkSmall
import Derived.Test.YtponhohdpophlaaGreatDoorS08
import Derived.Test.YtponhohdpophlaaGreatDoorS04
import Derived.Test.YtponhohdpophlaaGreatDoorS09
namespace Go.Proofs.YtponhohdpophlaaGreatDoor
set_option maxHeartbeats 8000000
set_option maxRecDepth 1000000
open Go renaming heap_alloc_new->Q0,bodyPost_end->RN,results_none->RP,heap_setCell_same->Ro,info_parts->Rr,bodyPost_ret->Ru,run_underlying->TB,growslice_fits->UU,grownCap_ge->Us,grownCap_le_maxLen->Uw,setRow_heap->Vq,maxLen->Y7,Calls->Y8,TypeId->Za,Ending->Zb
open Go.Ending renaming returned->YX
open Go.IntKind renaming i64->J,wrap_i64->QY
open Go.Lib renaming cell_of_heap->Q3,frozen_of_heap->RJ,extract_data->Su,run_eql_slice_nil->VW
open Go.Obj renaming cells->YU
open Go.Proofs.Any renaming unsafeString_none->UE
open Go.Proofs.Tryz renaming underlying100->RG,underlying9->RH,func164->RL,ntmps164->RM,underlying30->Rt,underlying33->Sn,func59->UC,ntmps59->UD,underlying31->VJ,underlying32->VK,ntmps170->Vv,func170->Xa,prog->Ys
open Go.Result renaming andThen_ok->RC
open Go.RowKit renaming Hid->H,Below->Y6,intOf->Y9
open Go.RowKit.Below renaming refl->QQ,drew->UF
open Go.Sem renaming run_pure->RA,run_bind->Rz
open Go.Value renaming int->I,slice->L,string->T,pointer->YV,bool->YW,tuple->YY,agg->YZ
open _root_.Array renaming getElem?_eq_some_iff->SK,getElem?_eq_getElem->Si,getElem?_toList->Sl,length_toList->TK,size_append->Ut,size_map->Uu,toList_append->Uv
open _root_.Bool renaming false->F,false_or->Q6,and_eq_true->Rk,and_true->SC,or_eq_true->Ty,true->YT
open _root_.List renaming getD_eq_getElem?_getD->Q5,getElem_mem->QU,take_succ_eq_append_getElem->QV,any_append->QW,any_eq_true->QX,take_length->QZ,map_toArray->RD,map_cons->RE,map_nil->RF,length_append->RI,length_cons->RQ,length_nil->RR,getElem?_eq_some_iff->RT,all_eq_true->Rb,getElem?_eq_getElem->Re,length_drop->Rq,append_nil->Sj,getElem?_take_of_lt->Sk,length_take->Sm,append_assoc->Sq,length_eq_zero_iff->TC,getElem?_map->TV,reverse_cons->Ti,reverse_nil->Tj,nil_append->Tk,cons_append->Tl,size_toArray->Vr
open _root_.Nat renaming le_refl->QR,zero_le->QS,add_zero->QT,le_trans->Rn,lt_of_lt_of_le->SA,zero_add->TD,le_of_lt->Vw
open _root_.Option renaming none->N,some->S
open _root_.Or renaming inl->Y4,inr->Y5
open Go.RowKit
section
variable {P:Program}
theorem Em(W:QI)(t g e:Za)(i:TypeInfo)(f:P.underlying t=S (.slice e))(d:P.info? e=S i)(b:Nat)(a:QK)(c:Nat):(Builtin.append_ #[t,t] g #[L (S ⟨b,0,N⟩) 0 0,L a 0 c]).run P W= .ok (L (S ⟨b,0,N⟩) 0 0) W:=by
 cases a <;> simp [Builtin.append_,TB f,sizeOf,typeInfo,d,Builtin.lenOf,Builtin.firstCells,loadCells,loadCellsFrom,storeCells]
theorem iH(W:QI)(t E e:Za)(z:QJ)(f d:Nat)(R:P.underlying t=S (.slice e))(p:(P.info? e).map (λi=>(i.zero,i.size,i.bytes))=S (S z,f,d))(D:z.cells.size=f)(C:0 < f)(b:Nat)(M:W.heap[b]? =S (YU #[] e (0,0)))
  (v:QJ) (n:Nat) (o:List QJ) (h:bg W v n f o) (V:∀u∈o,u.oneCell'=YT) (hn:n<=Y7) (w:n * d<=140737488355328):
  ∃g q m,(Builtin.append_ #[t,t] E #[L (S ⟨b,0,N⟩) 0 0,v]).run P W= .ok (L (S ⟨g,0,N⟩) n q) m/\m.ownsRow b e f (L (S ⟨g,0,N⟩) n q) n o/\W.grownBy m (S b)/\(g=b\/g=W.heap.size):=by
 obtain ⟨i,O,hz,hs,hy⟩:=Rr p;have G:W.ownsRow b e f (L (S ⟨b,0,N⟩) 0 0) 0 []:=⟨by simp,Y5 ⟨b,0,#[],rfl,QR _,M,QR _,by simp,by simp,by simp⟩⟩
 obtain ⟨A,⟨rfl,a,k,rfl⟩ | ⟨r,l,k,rfl,Y,X⟩⟩:=h
 .have x:o=[]:=TC.1 (by simpa using A);subst x;exact ⟨b,0,W,Em W t E e i R O b a k,G,⟨rfl,rfl,rfl,QR _,λ_ _ _=>rfl⟩,Y4 rfl⟩
 obtain ⟨v',m,hr,B,Z,_,c⟩:=run_append_own_at W b t E e i z f d R O hz hs hy D C (L (S ⟨b,0,N⟩) 0 0) 0 [] G ⟨r,l,N⟩ n k o A (λj u Q=>by
  have y:j < n * f:=by
   rw [<-A];exact (RT.1 Q).1
  rw [show (⟨r,l,N⟩:Addr).add j=⟨r,l+j,N⟩ by simp [Addr.add],X j y,Q]) V (by omega) (by simpa using w) (by have:=(SK.1 M).1;omega)
 rw [TD,Tk] at B
 rcases B.2 with ⟨s,_⟩ | ⟨g,q,U,s,_⟩
 .rw [s] at c
  rcases c with c | c <;> cases c
 subst s;refine ⟨g,q,m,hr,B,Z,?_⟩
 rcases c with c | c
 .injection c with c;exact Y4 c
 injection c with c;exact Y5 c
theorem bp{w:QI}{d:Array Oper}{c:List Oper}{o:Oper}{a:Act}{Q:Exit->Act->QI->Prop}(e:o.guard=N)(s x:Operand)(t:Za)
  (i:o.op= .call {callee:= .builtin .append,args:=#[s,x],argTypes:=#[t,t]}) (v u r:QJ) (f:QI) (k:a.eval s=v) (l:a.eval x=u) (j:(Builtin.append_ #[t,t] o.type #[v,u]).run P w= .ok r f) (h:wpList P d Q c (a.put o.dst r) f):wpList P d Q (o::c) a w:=
 wpList_plain e λb g=>by
  unfold Oper.wp execOp;simp only [i,resolve,invoke,builtin,Rz,RA,RC,RD,RE,RF,k,l,j];exact g _ _ h
end
open Go.Proofs.Tryz
theorem G8(l:List QL)(v:QJ)(w:QI)(h:bg w v l.length 1 (bA l))(O:l.length<=5):Y8 Ys 49 #[v] w λe z=>∃a c,e=YX (L a l.length c)/\z.ownsRow w.heap.size 9 1 (L a l.length c) l.length (bA l)/\Y6 w.heap.size w z:=by
 obtain ⟨a,f,E⟩:=az h;subst E
 cases a with
 | none=>
  have i:l.length=0:=by
   rcases h.2 with ⟨i,_⟩ | ⟨b,G,q,e,_⟩
   .exact i
   cases e
  have m:l=[]:=TC.1 i;subst m;clear h;have M:=λ(w:QI) (a:QK) (n c o d:Nat)=>VW (P:=Ys) w 30 _ a n c o d underlying30;go_enter func49,ntmps49;go_wp2_with fail
  go_ret;exact ⟨N,0,rfl,World.ownsRow_nil _ _ _ _,QQ _ _⟩
 | some a=>
  have y:(w.alloc (YU #[] 9)).heap[w.heap.size]? =S (YU #[] 9 (0,0)):=Q0 w _;obtain ⟨g,D,p,x,u,s,j⟩:=iH (P:=Ys) (w.alloc (YU #[] 9)) 30 30 9 (T ⟨#[]⟩) 1 16 underlying30 lL rfl (by decide) w.heap.size y (L (S a) l.length f) l.length (bA l) (h.below ((QQ _ _).alloc (QR _) _)) (zu l) (by unfold maxLen;omega) (by omega);have r:Y6 w.heap.size w p:=((QQ w.heap.size w).alloc (QR _) _).grown s (by simp) (λk t=>by injection t with t;omega);have C:=K x;have B:=K u;have A:=K r;clear x u r s j y h;have M:=λ(w:QI) (a:QK) (n c o d:Nat)=>VW (P:=Ys) w 30 _ a n c o d underlying30;go_enter func49,ntmps49
  go_wp2_with (first
   | (at_builtin;refine bp rfl _ _ 30 rfl _ _ (L (S ⟨g,0,N⟩) l.length D) p rfl rfl C.out ?_)
   | fail)
  go_ret;exact ⟨_,_,rfl,B.out,A.out⟩
theorem G9(l:List (Int×Int))(v:QJ)(w:QI)(h:bg w v l.length 2 (cZ l))(O:l.length<=5):Y8 Ys 50 #[v] w λe z=>∃a c,e=YX (L a l.length c)/\z.ownsRow w.heap.size 96 2 (L a l.length c) l.length (cZ l)/\Y6 w.heap.size w z:=by
 obtain ⟨a,f,E⟩:=az h;subst E
 cases a with
 | none=>
  have i:l.length=0:=by
   rcases h.2 with ⟨i,_⟩ | ⟨b,G,q,e,_⟩
   .exact i
   cases e
  have m:l=[]:=TC.1 i;subst m;clear h;have M:=λ(w:QI) (a:QK) (n c o d:Nat)=>VW (P:=Ys) w 31 _ a n c o d underlying31;go_enter func50,ntmps50;go_wp2_with fail
  go_ret;exact ⟨N,0,rfl,World.ownsRow_nil _ _ _ _,QQ _ _⟩
 | some a=>
  have y:(w.alloc (YU #[] 96)).heap[w.heap.size]? =S (YU #[] 96 (0,0)):=Q0 w _;obtain ⟨g,D,p,x,u,s,j⟩:=iH (P:=Ys) (w.alloc (YU #[] 96)) 31 31 96 (YZ #[I J 0,I J 0]) 2 16 underlying31 wE rfl (by decide) w.heap.size y (L (S a) l.length f) l.length (cZ l) (h.below ((QQ _ _).alloc (QR _) _)) (zt l) (by unfold maxLen;omega) (by omega);have r:Y6 w.heap.size w p:=((QQ w.heap.size w).alloc (QR _) _).grown s (by simp) (λk t=>by injection t with t;omega);have C:=K x;have B:=K u;have A:=K r;clear x u r s j y h;have M:=λ(w:QI) (a:QK) (n c o d:Nat)=>VW (P:=Ys) w 31 _ a n c o d underlying31;go_enter func50,ntmps50
  go_wp2_with (first
   | (at_builtin;refine bp rfl _ _ 31 rfl _ _ (L (S ⟨g,0,N⟩) l.length D) p rfl rfl C.out ?_)
   | fail)
  go_ret;exact ⟨_,_,rfl,B.out,A.out⟩
theorem Ha(l:List (QL×QL))(v:QJ)(w:QI)(h:bg w v l.length 2 (bI l))(O:l.length<=5):Y8 Ys 51 #[v] w λe z=>∃a c,e=YX (L a l.length c)/\z.ownsRow w.heap.size 68 2 (L a l.length c) l.length (bI l)/\Y6 w.heap.size w z:=by
 obtain ⟨a,f,E⟩:=az h;subst E
 cases a with
 | none=>
  have i:l.length=0:=by
   rcases h.2 with ⟨i,_⟩ | ⟨b,G,q,e,_⟩
   .exact i
   cases e
  have m:l=[]:=TC.1 i;subst m;clear h;have M:=λ(w:QI) (a:QK) (n c o d:Nat)=>VW (P:=Ys) w 32 _ a n c o d underlying32;go_enter func51,ntmps51;go_wp2_with fail
  go_ret;exact ⟨N,0,rfl,World.ownsRow_nil _ _ _ _,QQ _ _⟩
 | some a=>
  have y:(w.alloc (YU #[] 68)).heap[w.heap.size]? =S (YU #[] 68 (0,0)):=Q0 w _;obtain ⟨g,D,p,x,u,s,j⟩:=iH (P:=Ys) (w.alloc (YU #[] 68)) 32 32 68 (YZ #[T ⟨#[]⟩,T ⟨#[]⟩]) 2 32 underlying32 sS rfl (by decide) w.heap.size y (L (S a) l.length f) l.length (bI l) (h.below ((QQ _ _).alloc (QR _) _)) (sW l) (by unfold maxLen;omega) (by omega);have r:Y6 w.heap.size w p:=((QQ w.heap.size w).alloc (QR _) _).grown s (by simp) (λk t=>by injection t with t;omega);have C:=K x;have B:=K u;have A:=K r;clear x u r s j y h;have M:=λ(w:QI) (a:QK) (n c o d:Nat)=>VW (P:=Ys) w 32 _ a n c o d underlying32;go_enter func51,ntmps51
  go_wp2_with (first
   | (at_builtin;refine bp rfl _ _ 32 rfl _ _ (L (S ⟨g,0,N⟩) l.length D) p rfl rfl C.out ?_)
   | fail)
  go_ret;exact ⟨_,_,rfl,B.out,A.out⟩
theorem Hb(l:List Int)(v:QJ)(w:QI)(h:bg w v l.length 1 (dG l))(O:l.length<=5):Y8 Ys 52 #[v] w λe z=>∃a c,e=YX (L a l.length c)/\z.ownsRow w.heap.size 3 1 (L a l.length c) l.length (dG l)/\Y6 w.heap.size w z:=by
 obtain ⟨a,f,E⟩:=az h;subst E
 cases a with
 | none=>
  have i:l.length=0:=by
   rcases h.2 with ⟨i,_⟩ | ⟨b,G,q,e,_⟩
   .exact i
   cases e
  have m:l=[]:=TC.1 i;subst m;clear h;have M:=λ(w:QI) (a:QK) (n c o d:Nat)=>VW (P:=Ys) w 33 _ a n c o d underlying33;go_enter func52,ntmps52;go_wp2_with fail
  go_ret;exact ⟨N,0,rfl,World.ownsRow_nil _ _ _ _,QQ _ _⟩
 | some a=>
  have y:(w.alloc (YU #[] 3)).heap[w.heap.size]? =S (YU #[] 3 (0,0)):=Q0 w _;obtain ⟨g,D,p,x,u,s,j⟩:=iH (P:=Ys) (w.alloc (YU #[] 3)) 33 33 3 (I J 0) 1 8 underlying33 wD rfl (by decide) w.heap.size y (L (S a) l.length f) l.length (dG l) (h.below ((QQ _ _).alloc (QR _) _)) (zq l) (by unfold maxLen;omega) (by omega);have r:Y6 w.heap.size w p:=((QQ w.heap.size w).alloc (QR _) _).grown s (by simp) (λk t=>by injection t with t;omega);have C:=K x;have B:=K u;have A:=K r;clear x u r s j y h;have M:=λ(w:QI) (a:QK) (n c o d:Nat)=>VW (P:=Ys) w 33 _ a n c o d underlying33;go_enter func52,ntmps52
  go_wp2_with (first
   | (at_builtin;refine bp rfl _ _ 33 rfl _ _ (L (S ⟨g,0,N⟩) l.length D) p rfl rfl C.out ?_)
   | fail)
  go_ret;exact ⟨_,_,rfl,B.out,A.out⟩
theorem Pr{w:QI}{k:Nat}{o:Obj}(h:w.heap[k]? =S o):k < w.heap.size:=(SK.1 h).1
theorem jS{w a:QI}(b:Y6 w.heap.size w a){k:Nat}{o:Obj}(h:w.heap[k]? =S o):a.heap[k]? =S o:=(b.block k (Pr h)).trans h
theorem CZ{p:Nat}{w b:QI}(c:aA p w b){k:Nat}{o:Obj}(h:w.heap[k]? =S o)(a:k≠p):b.heap[k]? =S o:=(c.2 k a).trans h
theorem CY{w j:QI}{a i n:Nat}{e:Za}{v:QJ}{k:List QJ}(h:w.ownsRow a e i v n k)(p:∀g b,w.heap[g]? =S (YU b e (0,0))->a<=g->j.heap[g]? =S (YU b e (0,0))):j.ownsRow a e i v n k:=by
 obtain ⟨o,d⟩:=h;refine ⟨o,?_⟩
 rcases d with d | ⟨g,c,b,l,f,m,r⟩
 .exact Y4 d
 exact Y5 ⟨g,c,b,l,f,p g b m f,r⟩
theorem uV{w:QI}{a f i n:Nat}{e:Za}{v:QJ}{j:List QJ}(h:w.ownsRow a e i v n j)(o:f<=a):w.ownsRow f e i v n j:=by
 obtain ⟨m,d⟩:=h;refine ⟨m,?_⟩
 rcases d with d | ⟨g,b,c,k,l,r⟩
 .exact Y4 d
 exact Y5 ⟨g,b,c,k,Rn o l,r⟩
theorem PL{w:QI}{a n f:Nat}{e:Za}{v:QJ}{i:List QJ}(h:w.ownsRow a e f v n i):bg w v n f i:=by
 refine ⟨h.1,?_⟩
 rcases h.2 with ⟨b,m⟩ | ⟨g,k,l,b,_,o,c,_,_,d⟩
 .exact Y4 ⟨m,N,0,b⟩
 refine Y5 ⟨g,0,k,b,c,λj p=>?_⟩;rw [TD,Q3 o, <-Sl, <-Sk p,d]
structure LU(c:bF):Prop where
 host:c.host.size<=255
 xf:c.xf.length<=5
 yK:∀s∈c.xf,s.size<=255
 xe:c.xe.length<=5
 x9:c.x9.length<=5
 yI:∀x∈c.x9,x.1.size<=255/\x.2.size<=255
 waits:c.waits.length<=5
theorem wi{s:QL}(h:fI s.data.toList=YT):s.size<=255:=by
 unfold fI at h;simp only [Rk,decide_eq_true_eq,TK] at h;have:s.size=s.data.size:=rfl;omega
theorem uk{s:QL}(h:iU s.data.toList=YT):s.size<=255:=by
 unfold iU aZ at h;simp only [Rk,decide_eq_true_eq,TK] at h;have:s.size=s.data.size:=rfl;omega
theorem gI{c:bF}(h:dk c=YT):LU c:=by
 unfold dk mK lN jy jz at h;simp only [Rk,decide_eq_true_eq,Rb] at h;obtain ⟨⟨⟨⟨⟨⟨⟨⟨d,e,f⟩,g,_⟩,i,j⟩,_⟩,_⟩,a,_⟩,_⟩,_⟩:=h;refine ⟨wi d,e,λs l=>wi (f s l),g,i,λx m=>?_,?_⟩
 .obtain ⟨k,b,rfl⟩:=List.getElem_of_mem m;have:=j k (List.mem_range.2 b);unfold iq at this;simp only [Rk,Q5,Re b,Option.getD_some] at this;exact ⟨uk this.1.1,uk this.1.2⟩
 unfold aZ at a;simp only [Rk,decide_eq_true_eq] at a;omega
theorem iL{W:QI}{a n l:Nat}{e:Za}{v:QJ}{m:List QJ}(h:W.ownsRow a e l v n m){k:Nat}(b:v.ownBlock=S k):a<=k/\k < W.heap.size:=by
 rcases h.2 with ⟨c,_⟩ | ⟨g,d,f,c,i,j,_⟩
 .rw [c] at b;cases b
 rw [c] at b;injection b with b;subst b;exact ⟨i,(SK.1 j).1⟩
theorem te{W:QI}{g a:Nat}{A:Array QJ}{t:Za}{v:QJ}(h:W.heap[g]? =S (YU A t (0,0)))(d:A[a]? =S v):Y6 W.heap.size W (W.setCell ⟨g,a,N⟩ v):=by
 have b:aA g W (W.setCell ⟨g,a,N⟩ v):=(aA.refl _ _).setCell _;have f:=Ro W g a _ _ v h
 have e:A.setIfInBounds a v=A:=by
  apply Array.ext_getElem?;intro i;rw [Array.getElem?_setIfInBounds]
  split
  .rename_i j
   subst j;rw [d];simp [(SK.1 d).1]
  rfl
 refine ⟨b.3.1,b.3.2.1,b.3.2.2,by rw [b.1];exact QR _,λk _=>?_⟩
 by_cases c:k=g
 .subst c;rw [h,f,e]
 exact b.2 k c
structure Ea(w W:QI)(c:bF)(D N U V:QJ):Prop where
 box:W.heap[w.heap.size]? =S (YU #[T c.host,D,N,U,I J c.most,I J c.size,V,I J c.xm,I J c.room] 35 (0,0))
 out:W.heap[w.heap.size+1]? =S (YU #[T ⟨#[]⟩,L none 0 0,L none 0 0,L none 0 0,I J 0,I J 0,L none 0 0,I J 0,I J 0] 35 (0,0))
 below:Y6 w.heap.size w W
theorem Ea.xo{w W d:QI}{c:bF}{D a U V:QJ}(h:Ea w W c D a U V)(b:Y6 W.heap.size W d):Ea w d c D a U V:=
 ⟨jS b h.box,jS b h.out,h.below.trans (b.mono h.below.size)⟩
theorem Ea.set{w W:QI}{c:bF}{D a U V D' N' U' V':QJ}(h:Ea w W c D a U V)(j:Nat)(v:QJ)(e:(#[T c.host,D,a,U,I J c.most,I J c.size,V,I J c.xm,I J c.room]:Array QJ).setIfInBounds j v=#[T c.host,D',N',U',I J c.most,I J c.size,V',I J c.xm,I J c.room]):Ea w (W.setCell ⟨w.heap.size,j,N⟩ v) c D' N' U' V':=by
 have b:aA w.heap.size W (W.setCell ⟨w.heap.size,j,N⟩ v):=(aA.refl _ _).setCell _;refine ⟨?_,CZ b h.out (by omega),h.below.trans (b.below (QR _))⟩;have d:=Ro W w.heap.size j _ _ v h.box;rw [e] at d;exact d
theorem Ea.yD{w W:QI}{c:bF}{D a U V:QJ}(h:Ea w W c D a U V):w.heap.size+2<=W.heap.size:=Pr h.out
theorem Ea.cell{w W:QI}{c:bF}{D a U V:QJ}(h:Ea w W c D a U V)(j:Nat):W.cell? ⟨w.heap.size,j,N⟩=(#[T c.host,D,a,U,I J c.most,I J c.size,V,I J c.xm,I J c.room]:Array QJ)[j]? :=by rw [Q3 h.box]
theorem Ea.frozen{w W:QI}{c:bF}{D a U V:QJ}(h:Ea w W c D a U V)(j:Nat):W.frozen? ⟨w.heap.size,j,N⟩=F:=RJ h.box j
theorem kI{w W:QI}{n a j:Nat}{e:Za}{v x:QJ}{b:List QJ}(h:W.ownsRow (w.heap.size+2) e a v n b):(W.setCell ⟨w.heap.size,j,N⟩ x).ownsRow (w.heap.size+2) e a v n b:=
 CY h λ_ _ e c=>CZ ((aA.refl _ _).setCell _) e (by omega)
theorem dH{W b:QI}{a n c:Nat}{e:Za}{v:QJ}{d:List QJ}(h:W.ownsRow a e c v n d)(f:Y6 W.heap.size W b):b.ownsRow a e c v n d:=CY h λ_ _ e _=>jS f e
theorem CX{w W a:QI}{n b:Nat}{e:Za}{v:QJ}{c:List QJ}(h:W.ownsRow (w.heap.size+2) e b v n c)(d:aA (w.heap.size+1) W a):bg a v n b c:=
 PL (CY h λ_ _ e f=>CZ d e (by omega))
theorem ni{W:QI}{b j:Nat}{A A':Array QJ}{t:Za}{v:QJ}(h:W.heap[b]? =S (YU A t (0,0)))(e:A.setIfInBounds j v=A'):(W.setCell ⟨b,j,N⟩ v).heap[b]? =S (YU A' t (0,0)):=by
 rw [<-e];exact Ro W b j _ _ v h
theorem PK{w W b:QI}{c:bF}{D a U V:QJ}(h:Ea w W c D a U V)
  (d:(((((((((W.setCell ⟨w.heap.size+1,0,N⟩ (T c.host)).setCell ⟨w.heap.size+1,1,N⟩ D).setCell ⟨w.heap.size+1,2,N⟩ a).setCell ⟨w.heap.size+1,3,N⟩ U).setCell ⟨w.heap.size+1,4,N⟩ (I J c.most)).setCell ⟨w.heap.size+1,5,N⟩ (I J c.size)).setCell ⟨w.heap.size+1,6,N⟩ V).setCell ⟨w.heap.size+1,7,N⟩ (I J c.xm)).setCell ⟨w.heap.size+1,8,N⟩ (I J c.room))=b):
  (∀j:Nat,b.cell? ⟨w.heap.size+1,j,N⟩=(#[T c.host,D,a,U,I J c.most,I J c.size,V,I J c.xm,I J c.room]:Array QJ)[j]?)/\aA (w.heap.size+1) W b:=by
 have e:aA (w.heap.size+1) W b:=by rw [<-d];exact (((((((((aA.refl _ _).setCell _).setCell _).setCell _).setCell _).setCell _).setCell _).setCell _).setCell _).setCell _
 refine ⟨λj=>?_,e⟩
 have f:b.heap[w.heap.size+1]? =S (YU #[T c.host,D,a,U,I J c.most,I J c.size,V,I J c.xm,I J c.room] 35 (0,0)):=by
  rw [<-d];have g:=ni (j:=0) (v:=T c.host) h.out (A':=#[T c.host,L N 0 0,L N 0 0,L N 0 0,I J 0,I J 0,L N 0 0,I J 0,I J 0]) rfl;have i:=ni (j:=1) (v:=D) g (A':=#[T c.host,D,L N 0 0,L N 0 0,I J 0,I J 0,L N 0 0,I J 0,I J 0]) rfl;have k:=ni (j:=2) (v:=a) i (A':=#[T c.host,D,a,L N 0 0,I J 0,I J 0,L N 0 0,I J 0,I J 0]) rfl;have l:=ni (j:=3) (v:=U) k (A':=#[T c.host,D,a,U,I J 0,I J 0,L N 0 0,I J 0,I J 0]) rfl;have m:=ni (j:=4) (v:=I J c.most) l (A':=#[T c.host,D,a,U,I J c.most,I J 0,L N 0 0,I J 0,I J 0]) rfl;have n:=ni (j:=5) (v:=I J c.size) m (A':=#[T c.host,D,a,U,I J c.most,I J c.size,L N 0 0,I J 0,I J 0]) rfl;have o:=ni (j:=6) (v:=V) n (A':=#[T c.host,D,a,U,I J c.most,I J c.size,V,I J 0,I J 0]) rfl;have p:=ni (j:=7) (v:=I J c.xm) o (A':=#[T c.host,D,a,U,I J c.most,I J c.size,V,I J c.xm,I J 0]) rfl;exact ni (j:=8) (v:=I J c.room) p (A':=#[T c.host,D,a,U,I J c.most,I J c.size,V,I J c.xm,I J c.room]) rfl
 rw [Q3 f]
theorem vY(c:bF)(vD vN vU vW:QJ)(w:QI)(h:dD w c vD vN vU vW)(hs:LU c):Y8 Ys 19 #[YZ #[T c.host,vD,vN,vU,I J c.most,I J c.size,vW,I J c.xm,I J c.room]] w λe D=>∃uD uN uU uW,e=YX (YZ #[T c.host,uD,uN,uU,I J c.most,I J c.size,uW,I J c.xm,I J c.room])/\dD D c uD uN uU uW/\Y6 w.heap.size w D/\∀k,(uD.ownBlock=S k\/uN.ownBlock=S k\/uU.ownBlock=S k\/uW.ownBlock=S k)->w.heap.size<=k/\k < D.heap.size:=by
 obtain ⟨aD,cD,n⟩:=az h.1;obtain ⟨aN,cN,r⟩:=az h.2.1;obtain ⟨Z,cU,o⟩:=az h.2.2.1;obtain ⟨E,G,M⟩:=az h.2.2.2;subst n r o M;obtain ⟨W0,b6⟩:=QE ((w.alloc (YU #[T c.host,L aD c.xf.length cD,L aN c.xe.length cN,L Z c.x9.length cU,I J c.most,I J c.size,L E c.waits.length G,I J c.xm,I J c.room] 35)).alloc (YU #[T ⟨#[]⟩,L N 0 0,L N 0 0,L N 0 0,I J 0,I J 0,L N 0 0,I J 0,I J 0] 35))
 have C0:Ea w W0 c (L aD c.xf.length cD) (L aN c.xe.length cN) (L Z c.x9.length cU) (L E c.waits.length G):=by
  rw [<-b6];refine ⟨jS ((QQ _ _).alloc (QR _) _) (Q0 w _),?_,((QQ _ _).alloc (QR _) _).alloc (by simp) _⟩;have:=Q0 (w.alloc (YU #[T c.host,L aD c.xf.length cD,L aN c.xe.length cN,L Z c.x9.length cU,I J c.most,I J c.size,L E c.waits.length G,I J c.xm,I J c.room] 35)) (YU #[T ⟨#[]⟩,L N 0 0,L N 0 0,L N 0 0,I J 0,I J 0,L N 0 0,I J 0,I J 0] 35);simpa using this
 have HH:=K h;have HS:=K hs;have c3:=K C0;have h3:=K b6;have y0:W0.cell? ⟨w.heap.size,0,N⟩=S (T c.host):=C0.cell 0;clear h hs C0 b6;go_enter func19,ntmps19;go_wp2_with fail
 rw [h3.out];go_wp2_with fail
 refine (iX c.host W0 (by have:=HS.out.host;omega)).mono ?_;rintro e w1 ⟨rfl,d6⟩;have C1:=c3.out.xo d6;have y1:w1.cell? ⟨w.heap.size,1,N⟩=S (L aD c.xf.length cD):=C1.cell 1;have z0:w1.cell? ⟨w.heap.size,0,N⟩=S (T c.host):=C1.cell 0;have f0:=C1.frozen 0;have Q:=K (C1.set (D':=L aD c.xf.length cD) (N':=L aN c.xe.length cN) (U':=L Z c.x9.length cU) (V':=L E c.waits.length G) 0 (T c.host) rfl);clear d6 C1 y0 c3;go_wp2_with fail
 obtain ⟨W2,c9⟩:=QE (w1.setCell ⟨w.heap.size,0,N⟩ (T c.host));rw [c9] at Q ⊢;clear c9 y1 z0 f0;refine (G8 c.xf _ W2 (HH.out.1.below Q.out.below) HS.out.xf).mono ?_;rintro e w3 ⟨q,n,rfl,f4,d7⟩;have C3:=Q.out.xo d7;have y1:w3.cell? ⟨w.heap.size,1,N⟩=S (L aD c.xf.length cD):=C3.cell 1;have f1:=C3.frozen 1;have a3:=K (C3.set (D':=L q c.xf.length n) (N':=L aN c.xe.length cN) (U':=L Z c.x9.length cU) (V':=L E c.waits.length G) 1 (L q c.xf.length n) rfl);have a5:=K (kI (w:=w) (j:=1) (x:=L q c.xf.length n) (uV f4 Q.out.yD));clear d7 C3 f4 Q;go_wp2_with fail
 obtain ⟨W4,d2⟩:=QE (w3.setCell ⟨w.heap.size,1,N⟩ (L q c.xf.length n));rw [d2] at a3 a5 ⊢;clear d2 y1 f1;go_loopw [3,4,18] (λ_ _ i D=>∃k:Nat,k<=c.xf.length/\i=I J k/\H (Ea w D c (L q c.xf.length n) (L aN c.xe.length cN) (L Z c.x9.length cU) (L E c.waits.length G))/\H (D.ownsRow (w.heap.size+2) 9 1 (L q c.xf.length n) c.xf.length (bA c.xf))) (λ_ _ i _=>c.xf.length - (Y9 i).toNat)
 case atStart=>exact ⟨0,QS _,rfl,a3,a5⟩
 case round=>
  clear a3 a5;obtain ⟨k,hk,rfl,p,V⟩:=hrel;have h8:c.xf.length<=5:=HS.out.xf
  by_cases B:k < c.xf.length
  .have e9:(k:Int) < (c.xf.length:Int):=by omega
   obtain ⟨g,rfl,b,O,u⟩:∃g,q=S ⟨g,0,N⟩/\∃b:Array QJ,wr.heap[g]? =S (YU b 9 (0,0))/\b[k]? =S (T c.xf[k]):=by
    rcases V.out.2 with ⟨_,h0⟩ | ⟨g,cp,b,e,_,O,_,_,_,a2⟩
    .omega
    injection e with e1 _ _;refine ⟨g,e1,b,O,?_⟩;rw [<-Sl, <-Sk (show k < c.xf.length * 1 by omega),a2];simp [bA,B]
   have C:=HS.out.yK c.xf[k] (QU B);obtain ⟨t,et⟩:=QE (c.xf[k]);rw [et] at u C;clear et;have d0:wr.cell? ⟨g,k,N⟩=S (T t):=by rw [Q3 O];exact u
   have y1:wr.cell? ⟨w.heap.size,1,N⟩=S (L (S ⟨g,0,N⟩) c.xf.length n):=p.out.cell 1;have g6:=K (iX t wr.drew (by omega));have c5:=K u;have HG:H (wr.drew.heap[g]? =S (YU b 9 (0,0))):=K O;have y:H (Ea w wr.drew c (L (S ⟨g,0,N⟩) c.xf.length n) (L aN c.xe.length cN) (L Z c.x9.length cU) (L E c.waits.length G)):=K (p.out.xo ((QQ _ _).drew));have a8:H (wr.drew.ownsRow (w.heap.size+2) 9 1 (L (S ⟨g,0,N⟩) c.xf.length n) c.xf.length (bA c.xf)):=K (dH V.out ((QQ _ _).drew));have i3:wr.drew.cell? ⟨w.heap.size,1,N⟩=S (L (S ⟨g,0,N⟩) c.xf.length n):=y.out.cell 1;clear u O p V C;go_wp2_with fail
   go_region_law (first
    | (go_simp;go_at_call 48;refine g6.out.mono ?_;rintro e d ⟨rfl,a⟩;have f:=y.out.xo a;have O9:=dH a8.out a;have g9:=jS a HG.out;have d9:d.cell? ⟨g,k,N⟩=S (T t):=(by rw [Q3 g9];exact c5.out);have f9:=RJ g9 k;have i4:d.cell? ⟨w.heap.size,1,N⟩=S (L (S ⟨g,0,N⟩) c.xf.length n):=f.cell 1;have c4:=K f;have g8:=K O9;have g7:=K g9;clear f O9 g9 a;dsimp only))
   all_goals
    go_wp2_with fail
    have g0:=te g7.out c5.out;exact ⟨⟨k+1,by omega,by go_num,K (c4.out.xo g0),K (dH g8.out g0)⟩,by simp [Y9];omega⟩
  have c1:k=c.xf.length:=by omega
  subst c1;have y2:wr.cell? ⟨w.heap.size,2,N⟩=S (L aN c.xe.length cN):=p.out.cell 2;go_wp2_with fail
  refine (G9 c.xe _ wr (HH.out.2.1.below p.out.below) HS.out.xe).mono ?_;rintro e w5 ⟨A,r,rfl,f5,c0⟩;have C5:=p.out.xo c0;have y2:w5.cell? ⟨w.heap.size,2,N⟩=S (L aN c.xe.length cN):=C5.cell 2;have y3:w5.cell? ⟨w.heap.size,3,N⟩=S (L Z c.x9.length cU):=C5.cell 3;have f2:=C5.frozen 2;have R:=K (C5.set (D':=L q c.xf.length n) (N':=L A c.xe.length r) (U':=L Z c.x9.length cU) (V':=L E c.waits.length G) 2 (L A c.xe.length r) rfl);have a6:=K (kI (w:=w) (j:=2) (x:=L A c.xe.length r) (dH V.out c0));have b0:=K (kI (w:=w) (j:=2) (x:=L A c.xe.length r) (uV f5 p.out.yD));clear c0 C5 f5 p V;go_wp2_with fail
  obtain ⟨W6,d3⟩:=QE (w5.setCell ⟨w.heap.size,2,N⟩ (L A c.xe.length r));rw [d3] at R a6 b0 ⊢;clear d3 y2 y3 f2;refine (Ha c.x9 _ W6 (HH.out.2.2.1.below R.out.below) HS.out.x9).mono ?_;rintro e w7 ⟨s,o,rfl,f7,a1⟩;have C7:=R.out.xo a1;have y3:w7.cell? ⟨w.heap.size,3,N⟩=S (L Z c.x9.length cU):=C7.cell 3;have f3:=C7.frozen 3;have a4:=K (C7.set (D':=L q c.xf.length n) (N':=L A c.xe.length r) (U':=L s c.x9.length o) (V':=L E c.waits.length G) 3 (L s c.x9.length o) rfl);have a7:=K (kI (w:=w) (j:=3) (x:=L s c.x9.length o) (dH a6.out a1));have b1:=K (kI (w:=w) (j:=3) (x:=L s c.x9.length o) (dH b0.out a1));have b3:=K (kI (w:=w) (j:=3) (x:=L s c.x9.length o) (uV f7 R.out.yD));clear a1 C7 f7 R a6 b0;go_wp2_with fail
  obtain ⟨W8,d4⟩:=QE (w7.setCell ⟨w.heap.size,3,N⟩ (L s c.x9.length o));rw [d4] at a4 a7 b1 b3 ⊢;clear d4 y3 f3;go_loopw [5,6,41] (λ_ _ i D=>∃k:Nat,k<=c.x9.length/\i=I J k/\H (Ea w D c (L q c.xf.length n) (L A c.xe.length r) (L s c.x9.length o) (L E c.waits.length G))/\H (D.ownsRow (w.heap.size+2) 9 1 (L q c.xf.length n) c.xf.length (bA c.xf))/\H (D.ownsRow (w.heap.size+2) 96 2 (L A c.xe.length r) c.xe.length (cZ c.xe))/\H (D.ownsRow (w.heap.size+2) 68 2 (L s c.x9.length o) c.x9.length (bI c.x9))) (λ_ _ i _=>c.x9.length - (Y9 i).toNat)
  case atStart=>exact ⟨0,QS _,rfl,a4,a7,b1,b3⟩
  case round=>
   clear a4 a7 b1 b3;obtain ⟨k,hk,rfl,p,V,HP,HQ⟩:=hrel;have h9:c.x9.length<=5:=HS.out.x9
   by_cases B:k < c.x9.length
   .have e9:(k:Int) < (c.x9.length:Int):=by omega
    obtain ⟨g,rfl,b,O,l,m⟩:∃g,s=S ⟨g,0,N⟩/\∃b:Array QJ,wr.heap[g]? =S (YU b 68 (0,0))/\b[k * 2]? =S (T c.x9[k].1)/\b[k * 2+1]? =S (T c.x9[k].2):=by
     rcases HQ.out.2 with ⟨_,h0⟩ | ⟨g,cp,b,e,_,O,_,_,_,a2⟩
     .omega
     injection e with e1 _ _;refine ⟨g,e1,b,O,?_,?_⟩
     .rw [<-Sl, <-Sk (show k * 2 < c.x9.length * 2 by omega),a2];exact jt _ k B
     rw [<-Sl, <-Sk (show k * 2+1 < c.x9.length * 2 by omega),a2];exact j7 _ k B
    have C:=HS.out.yI c.x9[k] (QU B);obtain ⟨t,et⟩:=QE (c.x9[k]);rw [et] at l m C;obtain ⟨t0,t1⟩:=t;simp only at l m C;clear et;have d0:wr.cell? ⟨g,k * 2,N⟩=S (T t0):=by rw [Q3 O];exact l
    have d1:wr.cell? ⟨g,k * 2+1,N⟩=S (T t1):=by rw [Q3 O];exact m
    obtain ⟨W1,a0⟩:=QE (wr.alloc (YU #[T t0,T t1] 68));have B1:=QG a0;have X1:=QH a0;have D1:Y6 wr.heap.size wr W1.drew:=B1.drew;have y:=K (p.out.xo D1);have a8:=K (dH V.out D1);have h1:=K (dH HP.out D1);have h2:=K (dH HQ.out D1);have HG:H (W1.drew.heap[g]? =S (YU b 68 (0,0))):=K (jS D1 O);have HX:H (W1.drew.heap[wr.heap.size]? =S (YU #[T t0,T t1] 68 (0,0))):=K X1;have y3:W1.cell? ⟨w.heap.size,3,N⟩=S (L (S ⟨g,0,N⟩) c.x9.length o):=(p.out.xo B1).cell 3;have i5:W1.drew.cell? ⟨w.heap.size,3,N⟩=S (L (S ⟨g,0,N⟩) c.x9.length o):=y.out.cell 3;obtain ⟨x0,x1⟩:=QM X1;have i0:W1.drew.cell? ⟨wr.heap.size,0,N⟩=S (T t0):=x0;have i1:W1.drew.cell? ⟨wr.heap.size,1,N⟩=S (T t1):=x1;have g4:=K (iX t0 W1.drew (by omega));have g5:H (∀W:QI,Y8 Ys 48 #[T t1] W λe D=>e=YX (T t1)/\Y6 W.heap.size W D):=K (λW=>iX t1 W (by omega));have c7:=K l;have c8:=K m;have h4:=K a0;clear l m O p V HP HQ C a0 B1 X1 D1;go_wp2_with fail
    rw [h4.out]
    go_region_law (first
     | (go_simp;go_at_call 48;refine g4.out.mono ?_;rintro e d ⟨rfl,a⟩;have f:=y.out.xo a;have X9:=jS a HX.out;have i6:d.cell? ⟨w.heap.size,3,N⟩=S (L (S ⟨g,0,N⟩) c.x9.length o):=f.cell 3;have i2:d.cell? ⟨wr.heap.size,1,N⟩=S (T t1):=(Q3 X9 _);have c4:=K f;have c2:=K a;clear f X9 a;dsimp only)
     | (go_simp;go_at_call 48;refine (g5.out d).mono ?_;rintro e wa ⟨rfl,d8⟩;have P:=K (c2.out.trans (d8.mono c2.out.size));have Ca:=y.out.xo P.out;have ga:=jS P.out HG.out;have da:wa.cell? ⟨g,k * 2,N⟩=S (T t0):=(by rw [Q3 ga];exact c7.out);have h6:wa.cell? ⟨g,k * 2+1,N⟩=S (T t1):=(by rw [Q3 ga];exact c8.out);have fa:=RJ ga (k * 2);have h7:=RJ ga (k * 2+1);have i8:wa.cell? ⟨w.heap.size,3,N⟩=S (L (S ⟨g,0,N⟩) c.x9.length o):=Ca.cell 3;have U:=K Ca;have c6:=K ga;clear Ca ga d8;dsimp only))
    all_goals
     go_wp2_with fail
     have s1:=te c6.out c7.out;have s2:=s1.trans ((te (jS s1 c6.out) c8.out).mono s1.size);exact ⟨⟨k+1,by omega,by go_num,K (U.out.xo s2),K (dH (dH a8.out P.out) s2),K (dH (dH h1.out P.out) s2),K (dH (dH h2.out P.out) s2)⟩,by simp [Y9];omega⟩
   have c1:k=c.x9.length:=by omega
   subst c1;have y6:wr.cell? ⟨w.heap.size,6,N⟩=S (L E c.waits.length G):=p.out.cell 6;go_wp2_with fail
   refine (Hb c.waits _ wr (HH.out.2.2.2.below p.out.below) HS.out.waits).mono ?_;rintro e d ⟨bW,M,rfl,f8,a⟩;have f:=p.out.xo a;have y6:d.cell? ⟨w.heap.size,6,N⟩=S (L E c.waits.length G):=f.cell 6;have f6:=f.frozen 6;have U:=K (f.set (D':=L q c.xf.length n) (N':=L A c.xe.length r) (U':=L s c.x9.length o) (V':=L bW c.waits.length M) 6 (L bW c.waits.length M) rfl);have a9:=K (kI (w:=w) (j:=6) (x:=L bW c.waits.length M) (dH V.out a));have b2:=K (kI (w:=w) (j:=6) (x:=L bW c.waits.length M) (dH HP.out a));have b4:=K (kI (w:=w) (j:=6) (x:=L bW c.waits.length M) (dH HQ.out a));have b5:=K (kI (w:=w) (j:=6) (x:=L bW c.waits.length M) (uV f8 p.out.yD));have cs:=λj=>f.cell j;have k0:d.cell? ⟨w.heap.size,0,N⟩=S (T c.host):=cs 0;have k1:d.cell? ⟨w.heap.size,1,N⟩=S (L q c.xf.length n):=cs 1;have k2:d.cell? ⟨w.heap.size,2,N⟩=S (L A c.xe.length r):=cs 2;have k3:d.cell? ⟨w.heap.size,3,N⟩=S (L s c.x9.length o):=cs 3;have k4:d.cell? ⟨w.heap.size,4,N⟩=S (I J c.most):=cs 4;have k5:d.cell? ⟨w.heap.size,5,N⟩=S (I J c.size):=cs 5;have k7:d.cell? ⟨w.heap.size,7,N⟩=S (I J c.xm):=cs 7;have k8:d.cell? ⟨w.heap.size,8,N⟩=S (I J c.room):=cs 8;have m0:d.cell? ⟨w.heap.size+1,0,N⟩=S (T ⟨#[]⟩):=Q3 f.out _;have m1:d.cell? ⟨w.heap.size+1,1,N⟩=S (L N 0 0):=Q3 f.out _;have m2:d.cell? ⟨w.heap.size+1,2,N⟩=S (L N 0 0):=Q3 f.out _;have m3:d.cell? ⟨w.heap.size+1,3,N⟩=S (L N 0 0):=Q3 f.out _;have m4:d.cell? ⟨w.heap.size+1,4,N⟩=S (I J 0):=Q3 f.out _;have m5:d.cell? ⟨w.heap.size+1,5,N⟩=S (I J 0):=Q3 f.out _;have m6:d.cell? ⟨w.heap.size+1,6,N⟩=S (L N 0 0):=Q3 f.out _;have m7:d.cell? ⟨w.heap.size+1,7,N⟩=S (I J 0):=Q3 f.out _;have m8:d.cell? ⟨w.heap.size+1,8,N⟩=S (I J 0):=Q3 f.out _;have ff:∀j:Nat,d.frozen? ⟨w.heap.size+1,j,N⟩=F:=λj=>RJ f.out j;clear cs a f f8 p V HP HQ;go_wp2_with fail
   obtain ⟨Wa,d5⟩:=QE (d.setCell ⟨w.heap.size,6,N⟩ (L bW c.waits.length M));rw [d5] at U a9 b2 b4 b5 ⊢;obtain ⟨X,b7⟩:=QE ((((((((((Wa.setCell ⟨w.heap.size+1,0,N⟩ (T c.host)).setCell ⟨w.heap.size+1,1,N⟩ (L q c.xf.length n)).setCell ⟨w.heap.size+1,2,N⟩ (L A c.xe.length r)).setCell ⟨w.heap.size+1,3,N⟩ (L s c.x9.length o)).setCell ⟨w.heap.size+1,4,N⟩ (I J c.most)).setCell ⟨w.heap.size+1,5,N⟩ (I J c.size)).setCell ⟨w.heap.size+1,6,N⟩ (L bW c.waits.length M)).setCell ⟨w.heap.size+1,7,N⟩ (I J c.xm)).setCell ⟨w.heap.size+1,8,N⟩ (I J c.room)));rw [b7];obtain ⟨Y,Sf⟩:=PK U.out b7;have z:=K Sf;have e0:X.cell? ⟨w.heap.size+1,0,N⟩=S (T c.host):=Y 0;have e1:X.cell? ⟨w.heap.size+1,1,N⟩=S (L q c.xf.length n):=Y 1;have e2:X.cell? ⟨w.heap.size+1,2,N⟩=S (L A c.xe.length r):=Y 2;have e3:X.cell? ⟨w.heap.size+1,3,N⟩=S (L s c.x9.length o):=Y 3;have e4:X.cell? ⟨w.heap.size+1,4,N⟩=S (I J c.most):=Y 4;have e5:X.cell? ⟨w.heap.size+1,5,N⟩=S (I J c.size):=Y 5;have e6:X.cell? ⟨w.heap.size+1,6,N⟩=S (L bW c.waits.length M):=Y 6;have e7:X.cell? ⟨w.heap.size+1,7,N⟩=S (I J c.xm):=Y 7;have e8:X.cell? ⟨w.heap.size+1,8,N⟩=S (I J c.room):=Y 8;clear b7 d5 Y Sf;refine Ru (v:=YZ #[T c.host,L q c.xf.length n,L A c.xe.length r,L s c.x9.length o,I J c.most,I J c.size,L bW c.waits.length M,I J c.xm,I J c.room]) (by simp [results,results19,go_sem,e0,e1,e2,e3,e4,e5,e6,e7,e8]) rfl ?_
   exact ⟨_,_,_,_,rfl,⟨CX a9.out z.out,CX b2.out z.out,CX b4.out z.out,CX b5.out z.out⟩,U.out.below.trans (z.out.below (by omega)),λk e=>by
    have h5:X.heap.size=Wa.heap.size:=z.out.1;rw [h5]
    rcases e with e | e | e | e
    .have:=iL a9.out e;omega
    .have:=iL b2.out e;omega
    .have:=iL b4.out e;omega
    have:=iL b5.out e;omega⟩
section
variable {P:Program} (w:QI)
theorem jb(t R:Za)(h:Nat)(e:Za)(i:TypeInfo)(z:QJ)(b d:Nat)(Z:P.underlying t=S (.slice e))(W:P.info? e=S i)(hz:i.zero=S z)
  (s:i.size=b) (M:i.bytes=d) (a1:z.cells.size=b) (Y:0 < b)
  (v:QJ) (n:Nat) (U:List QJ) (p:w.ownsRow h e b v n U)
  (B:Addr) (m c:Nat) (a:List QJ) (Q:a.length=m * b) (f:∀j u,a[j]? =S u->w.cell? (B.add j)=S u) (h1:∀u∈a,u.oneCell'=YT)
  (hm:0 < m) (G:n+m<=Y7) (o:(n+m) * d<=140737488355328) (y:h<=w.heap.size):
  ∃g x A,(Builtin.append_ #[t,t] R #[v,L (S B) m c]).run P w= .ok (L (S ⟨g,0,N⟩) (n+m) x) A/\
   A.ownsRow h e b (L (S ⟨g,0,N⟩) (n+m) x) (n+m) (U++a)/\((v.ownBlock=S g/\w.grownBy A (S g))\/(g=w.heap.size/\w.grownBy A N)):=by
 obtain ⟨g,x,A,X,h2,h3,E,h5⟩:=run_append_lies (P:=P) w t R h e i z b d Z W hz s M a1 Y v n U p B m c a Q f h1 hm G o y w.heap.size rfl;refine ⟨g,x,A,X,h2,?_⟩
 rcases p.2 with ⟨rfl,_⟩ | ⟨D,l,C,rfl,a2,hg,a4,a3,V,a0⟩
 .rcases E with E | E
  .cases E
  exact Y5 ⟨E,h3⟩
 have hb:(L (S ⟨D,0,N⟩) n l).ownBlock=S D:=rfl;subst s
 by_cases r:n+m<=l
 .have O:n * i.size+a.length<=C.size:=by rw [Q,V, <-Nat.add_mul];exact Nat.mul_le_mul_right _ r
  have q:=run_append_room (P:=P) w t R e i Z W D n l C hg B m c a Q f h1 r O;rw [X] at q;injection q with e1 e2;injection e1 with e1 _ _;injection e1 with e1;injection e1 with e1 _;subst e1;exact Y4 ⟨rfl,h3⟩
 subst M;have q:=run_append_grow (P:=P) w t R e i z Z W hz ⟨D,0,N⟩ n l U p.1 (p.cells (g:=D) rfl) B m c a Q f (by omega) (by simp only [Y7] at G;omega) (UU (by omega) o);rw [X] at q;injection q with e1 e2;injection e1 with e1 _ _;injection e1 with e1;injection e1 with e1 _;subst e1;rw [e2];exact Y5 ⟨rfl,⟨rfl,rfl,rfl,by simp,λk hk _=>(by first | exact heap_alloc_old w.drew _ k hk | exact heap_alloc_old w.drew _ hk)⟩⟩
theorem cB{E:Array Oper}{r:List Oper}{o:Oper}{a:Act}{Q:Exit->Act->QI->Prop}(R:o.guard=N)(s x:Operand)(t:Za)
  (ho:o.op= .call {callee:= .builtin .append,args:=#[s,x],argTypes:=#[t,t]})
  (l:Nat) (e:Za) (i:TypeInfo) (z:QJ) (d k:Nat) (ht:P.underlying t=S (.slice e)) (hi:P.info? e=S i) (hz:i.zero=S z)
  (B:i.size=d) (O:i.bytes=k) (V:z.cells.size=d) (U:0 < d)
  (v:QJ) (n:Nat) (W:List QJ) (hs:a.eval s=v) (D:w.ownsRow l e d v n W)
  (G:Addr) (m c:Nat) (f:List QJ) (hx:a.eval x=L (S G) m c) (hl:f.length=m * d) (A:∀j u,f[j]? =S u->w.cell? (G.add j)=S u) (X:∀u∈f,u.oneCell'=YT)
  (hm:0 < m) (M:n+m<=Y7) (q:(n+m) * k<=140737488355328) (y:l<=w.heap.size)
  (h:∀g p C,C.ownsRow l e d (L (S ⟨g,0,N⟩) (n+m) p) (n+m) (W++f)->((v.ownBlock=S g/\w.grownBy C (S g))\/(g=w.heap.size/\w.grownBy C N))->wpList P E Q r (a.put o.dst (L (S ⟨g,0,N⟩) (n+m) p)) C):wpList P E Q (o::r) a w:=by
 refine wpList_plain R λb hK=>?_;obtain ⟨g,p,C,hr,Y,Z⟩:=jb (P:=P) w t o.type l e i z d k ht hi hz B O V U v n W D G m c f hl A X hm M q y;unfold Oper.wp execOp;simp only [ho,resolve,invoke,builtin,Rz,RA,RC,RD,RE,RF,hs,hx,hr];exact hK _ _ (h g p C Y Z)
theorem r8{D:Array Oper}{o:Oper}{a:Act}{b:Act->QI->Prop}{Q:Exit->Act->QI->Prop}{E:Prop}(R:o.guard=N)(s x:Operand)(t:Za)
  (ho:o.op= .call {callee:= .builtin .append,args:=#[s,x],argTypes:=#[t,t]})
  (l:Nat) (e:Za) (i:TypeInfo) (z:QJ) (d k:Nat) (ht:P.underlying t=S (.slice e)) (hi:P.info? e=S i) (hz:i.zero=S z)
  (A:i.size=d) (O:i.bytes=k) (V:z.cells.size=d) (U:0 < d)
  (v:QJ) (n:Nat) (W:List QJ) (hs:a.eval s=v) (C:w.ownsRow l e d v n W)
  (G:Addr) (m c:Nat) (f:List QJ) (hx:a.eval x=L (S G) m c) (hl:f.length=m * d) (y:∀j u,f[j]? =S u->w.cell? (G.add j)=S u) (X:∀u∈f,u.oneCell'=YT)
  (hm:0 < m) (M:n+m<=Y7) (q:(n+m) * k<=140737488355328) (r:l<=w.heap.size)
  (h:∀g p B,B.ownsRow l e d (L (S ⟨g,0,N⟩) (n+m) p) (n+m) (W++f)->((v.ownBlock=S g/\w.grownBy B (S g))\/(g=w.heap.size/\w.grownBy B N))->b (a.put o.dst (L (S ⟨g,0,N⟩) (n+m) p)) B):
  if Region.wanted o (yielded D a.tmps)=YT then Oper.wp P o a w b Q else E:=by
 have hw:Region.wanted o (yielded D a.tmps)=YT:=by simp [Region.wanted,R]
 rw [if_pos hw];obtain ⟨g,p,B,hr,Y,Z⟩:=jb (P:=P) w t o.type l e i z d k ht hi hz A O V U v n W C G m c f hl y X hm M q r;unfold Oper.wp execOp;simp only [ho,resolve,invoke,builtin,Rz,RA,RC,RD,RE,RF,hs,hx,hr];exact h g p B Y Z
end
def mW(x:QL×QL):QL:=(⟨#[0]⟩++x.1++⟨#[0]⟩)++x.2
def iA(shown:QL)(x:QL×QL):Bool:=(shown.toList == (mW x).toList) || (shown.toList == (x.1++mW x).toList)
theorem E1(c:bF)(X Y Z vW:QJ)(a:QL)(w:QI)(h:dD w c X Y Z vW)(hn:c.x9.length<=5)(U:∀x∈c.x9,x.1.size<=255/\x.2.size<=255):Y8 Ys 231 #[YZ #[T c.host,X,Y,Z,I J c.most,I J c.size,vW,I J c.xm,I J c.room],T a] w λe M=>e=YX (YW (c.x9.any (iA a)))/\Y6 w.heap.size w M:=by
 obtain ⟨aD,cD,eD⟩:=az h.1;obtain ⟨aN,cN,eN⟩:=az h.2.1;obtain ⟨aW,cW,eW⟩:=az h.2.2.2;obtain ⟨aU,cU,eU,R⟩:=h.2.2.1.shape;subst eD eN eU eW;obtain ⟨W0,l⟩:=QE (w.alloc (YU #[T c.host,L aD c.xf.length cD,L aN c.xe.length cN,L aU c.x9.length cU,I J c.most,I J c.size,L aW c.waits.length cW,I J c.xm,I J c.room] 35));have O:=QG l;have P:=K R;have HL:=K U;have u:=K O;have A:=K l;clear h R U O l;go_enter func231,ntmps231;go_wp2_with fail
 rw [A.out];go_loopw [6,7,11] (λ_ _ i M=>∃k:Nat,k<=c.x9.length/\i=I J k/\H ((c.x9.take k).any (iA a)=F)/\H (Y6 w.heap.size w M)) (λ_ _ i _=>c.x9.length - (Y9 i).toNat)
 case atStart=>exact ⟨0,QS _,rfl,K rfl,u⟩
 case round=>
  obtain ⟨k,hk,rfl,v,n⟩:=hrel
  by_cases g:k < c.x9.length
  .have V:(k:Int) < (c.x9.length:Int):=by omega
   obtain ⟨b,q,rfl,o,f⟩:=P.out k 0 g (by omega);obtain ⟨b',W,B,_,d⟩:=P.out k 1 g (by omega);injection B with B;injection B with e1 e2 _;subst e1 e2;rw [QT,jt c.x9 k g] at f;rw [j7 c.x9 k g] at d;have p:=HL.out c.x9[k] (QU g);have HT:H ((c.x9.take (k+1)).any (iA a)=iA a c.x9[k]):=K (by rw [QV g,QW,v.out];simp);have r:H (iA a c.x9[k]=YT->c.x9.any (iA a)=YT):=K (λe=>QX.2 ⟨_,QU g,e⟩);obtain ⟨x,Q⟩:=QE (c.x9[k]);rw [Q] at f d p HT r;obtain ⟨j,m⟩:=x;simp only at f d p;have d0:wr.cell? ⟨b,q+k * 2,N⟩=S (T j):=(n.out.cell (by exact o)).trans f;have d1:wr.cell? ⟨b,q+k * 2+1,N⟩=S (T m):=(n.out.cell (by exact o)).trans d;have C:iA a (j,m)=((a.toList == ((⟨#[0]⟩++j++⟨#[0]⟩)++m).toList) || (a.toList == (j++((⟨#[0]⟩++j++⟨#[0]⟩)++m)).toList)):=rfl;obtain ⟨t1,E⟩:∃t,(a.toList == ((⟨#[0]⟩++j++⟨#[0]⟩)++m).toList)=t:=⟨_,rfl⟩;obtain ⟨t2,G⟩:∃t,(a.toList == (j++((⟨#[0]⟩++j++⟨#[0]⟩)++m)).toList)=t:=⟨_,rfl⟩;rw [E,G] at C;rw [C] at HT r;clear Q f d C;have s:=K (n.out.alloc n.out.size (YU #[T j,T m] 68))
   cases t1
   case true=>
    have z:=K (r.out (by simp));go_wp2_with fail
    go_ret;exact ⟨by rw [z.out];rfl,s.out⟩
   cases t2
   case true=>
    have z:=K (r.out (by simp));go_wp2_with fail
    go_ret;exact ⟨by rw [z.out];rfl,s.out⟩
   have y:H ((c.x9.take (k+1)).any (iA a)=F):=K (HT.out.trans (by simp));go_wp2_with fail
   exact ⟨⟨k+1,by omega,by go_num,y,s⟩,by simp [Y9];omega⟩
  have D:k=c.x9.length:=by omega
  subst D;rw [QZ] at v;go_wp2_with fail
  go_ret;exact ⟨by rw [v.out];rfl,n.out⟩
structure lE(w:QI)(pp:Nat)(c:bF)(vD vN vU vW:QJ):Prop where
 xp:∃A:Array QJ,w.heap[pp]? =S (YU A 66 (0,0))/\A.toList.take 9=[T c.host,vD,vN,vU,I J c.most,I J c.size,vW,I J c.xm,I J c.room]
 rows:dD w c vD vN vU vW
 may:dk c=YT
theorem lE.small{w:QI}{a:Nat}{c:bF}{b d e f:QJ}(h:lE w a c b d e f):LU c:=gI h.may
theorem lE.cell{w:QI}{a:Nat}{c:bF}{b d e f:QJ}(h:lE w a c b d e f)(j:Nat)(i:j < 9):w.cell? ⟨a,j,N⟩=[T c.host,b,d,e,I J c.most,I J c.size,f,I J c.xm,I J c.room][j]? :=by
 obtain ⟨A,g,k⟩:=h.xp;rw [Q3 g, <-Sl, <-Sk i,k]
theorem KJ(sb b i:Nat)(C:Array QJ)(a:QL)(w:QI)(h:bQ w sb b C [])(g:C[8]? =S (YV (S ⟨i,0,N⟩))):Y8 Ys 170 #[YV (S ⟨sb,0,N⟩),T a] w λe d=>e=YX (YY #[])/\bQ d sb b C [[53,48,51,32,102,105,114,115,116,13,10]]/\aA b w d:=by
 have HT:=K (h.tell (by simp) [53,48,51,32,102,105,114,115,116] (by decide));have j:=(h.cell 8).trans g;clear h;go_enter Xa,ntmps170;go_wp2_with fail
 refine HT.out.mono ?_;rintro e k ⟨rfl,f,c⟩;go_wp2_with fail
 refine RN (RP rfl _ _ _) rfl ?_;exact ⟨rfl,f,c⟩
theorem Im(sb b:Nat)(C:Array QJ)(a:QL)(w:QI)(h:bQ w sb b C [])(i:C[8]? =S (YV N))(g:C[6]? =S (YW YT)):Y8 Ys 170 #[YV (S ⟨sb,0,N⟩),T a] w λe d=>e=YX (YY #[])/\bQ d sb b C [[53,48,51,32,102,105,114,115,116,13,10]]/\aA b w d:=by
 have HT:=K (h.tell (by simp) [53,48,51,32,102,105,114,115,116] (by decide));have k:=(h.cell 8).trans i;have j:=(h.cell 6).trans g;clear h;go_enter Xa,ntmps170;go_wp2_with fail
 refine HT.out.mono ?_;rintro e l ⟨rfl,f,c⟩;go_wp2_with fail
 refine RN (RP rfl _ _ _) rfl ?_;exact ⟨rfl,f,c⟩
theorem MJ(sb r y:Nat)(C:Array QJ)(c:bF)(O P Q R:QJ)(f:QL)(w:QI)(h:bQ w sb r C [])(i:lE w y c O P Q R)(G:C[0]? =S (YV (S ⟨y,0,N⟩)))(M:C[8]? =S (YV N))(v:C[6]? =S (YW F)):Y8 Ys 170 #[YV (S ⟨sb,0,N⟩),T f] w λe p=>e=YX (YY #[])/\bQ p sb r (if c.x9.any (iA f) then C.setIfInBounds 6 (YW YT) else C) [if c.x9.any (iA f) then [50,51,53,32,111,107,13,10] else [53,51,53,32,110,111,13,10]]/\(∀k,k < w.heap.size->k≠sb->k≠r->p.heap[k]? =w.heap[k]?)/\df w p/\w.heap.size<=p.heap.size:=by
 have c8:=(h.cell 8).trans M;have c6:=(h.cell 6).trans v;have c0:=(h.cell 0).trans G;obtain ⟨aD,cD,A⟩:=az i.rows.1;obtain ⟨aN,cN,B⟩:=az i.rows.2.1;obtain ⟨aU,cU,D⟩:=az i.rows.2.2.1;obtain ⟨aW,cW,E⟩:=az i.rows.2.2.2;subst A B D E;have V:=i.cell 0 (by decide);have W:=i.cell 1 (by decide);have X:=i.cell 2 (by decide);have Y:=i.cell 3 (by decide);have Z:=i.cell 4 (by decide);have y5:=i.cell 5 (by decide);have y6:=i.cell 6 (by decide);have y7:=i.cell 7 (by decide);have y8:=i.cell 8 (by decide);simp only [List.getElem?_cons_zero,List.getElem?_cons_succ] at V W X Y Z y5 y6 y7 y8;have o:=K (E1 c _ _ _ _ f w i.rows i.small.x9 i.small.yI);have z:=K h;obtain ⟨t,x⟩:=QE (c.x9.any (iA f));rw [x] at o ⊢;clear h i x;go_enter Xa,ntmps170;go_wp2_with fail
 refine o.out.mono ?_;rintro e q ⟨rfl,l⟩;have n:=z.out.below l;have g:=K l
 cases t
 case true=>
  have d6:=(n.cell 6).trans v;have f6:=n.frozen 6;have u:aA sb q (q.setCell ⟨sb,6,N⟩ (YW YT)):=(aA.refl _ _).setCell _;have HT:=K ((n.set 6 (by decide) (YW YT)).tell (by simp) [50,51,53,32,111,107] (by decide));have m:=K u;clear n u l o;go_wp2_with fail
  refine HT.out.mono ?_;rintro e U ⟨rfl,s,j⟩;go_wp2_with fail
  refine RN (RP rfl _ _ _) rfl ?_;refine ⟨rfl,s,λk a b d=>(j.2 k d).trans ((m.out.2 k b).trans (g.out.block k a)),((show df w q from ⟨g.out.1,g.out.2,g.out.3⟩).trans m.out.3).trans j.3,?_⟩;rw [j.1,m.out.1];exact g.out.size
 have HT:=K (n.tell (by simp) [53,51,53,32,110,111] (by decide));clear n l o;go_wp2_with fail
 refine HT.out.mono ?_;rintro e U ⟨rfl,s,j⟩;go_wp2_with fail
 refine RN (RP rfl _ _ _) rfl ?_;refine ⟨rfl,s,λk a _ d=>(j.2 k d).trans (g.out.block k a),(show df w q from ⟨g.out.1,g.out.2,g.out.3⟩).trans j.3,?_⟩;rw [j.1];exact g.out.size
def vu(w:QI):Prop:=Lib.TabIs Ys w "internal/strconv.uint64pow10" .u64 Lib.pow10Tab
theorem Cg:prog.globalNamed "internal/strconv.uint64pow10"=S 6:=by kernel_rfl
theorem vu.block{w a:QI}(h:vu w)(e:a.heap[6]? =w.heap[6]?):vu a:=by
 unfold vu Lib.TabIs World.var? at h ⊢;rw [Cg] at h ⊢;simp only [Option.bind_some] at h ⊢;rw [e];exact h
theorem vu.lt{w:QI}(h:vu w):6 < w.heap.size:=by
 unfold vu Lib.TabIs World.var? at h;rw [Cg] at h;simp only [Option.bind_some] at h
 rcases hh:w.heap[6]? with _ | o
 .rw [hh] at h;simp at h
 exact aq hh
theorem vu.below{w a:QI}(h:vu w)(b:Y6 w.heap.size w a):vu a:=h.block (b.block _ h.lt)
theorem vu.xt{A:Nat->Prop}{w a:QI}(h:vu w)(b:aC A w a)(c:¬A 6):vu a:=h.block (b.block _ h.lt c)
theorem vu.same{b:Nat}{w a:QI}(h:vu w)(d:aA b w a)(c:b≠6):vu a:=h.block (d.2 _ (Ne.symm c))
theorem JX(w:QI)(k:Nat)(a:Array Obj):Y6 w.heap.size w (Sort.grow (w.drewN k) a):=by
 have h:=an k w w.heap.size;refine ⟨h.os,h.tape,h.output,?_,λj b=>?_⟩
 .show w.heap.size<=((w.drewN k).heap++a).size;rw [Ut];have:=h.size;omega
 show ((w.drewN k).heap++a)[j]? =_;rw [Array.getElem?_append_left (SA b h.size)];exact h.block j b
theorem E9(n:Int)(b: -9223372036854775808<=n)(c:n<=9223372036854775807)(w:QI)(d:vu w):Y8 Ys 227 #[I J n] w λe a=>e=YX (T (bs (Lib.itoa n)))/\Y6 w.heap.size w a:=by
 refine (Tryz.strconv_Itoa n b c w d).mono ?_;rintro e a ⟨rfl,k,f,rfl⟩;exact ⟨rfl,JX w k f⟩
theorem mu(n:Nat):∀k,n < 10 ^ (k+1)->(Lib.decDigits n).length<=k+1:=by
 induction n using Nat.strongRecOn with
 | ind n ih=>
  intro k a;rw [Lib.decDigits]
  split
  .simp
  rename_i h
  cases k with
  | zero=>omega
  | succ k=>
   have:=ih (n / 10) (by omega) k (by rw [Nat.pow_succ] at a;omega);simp;omega
theorem AA(sb l i:Nat)(C:Array QJ)(b:QF)(a:Int)(w:QI)(h:bQ w sb l C [])(V:C[0]? =S (YV (S ⟨i,0,N⟩)))(hh:w.cell? ⟨i,0,N⟩=S (T (bs b)))(Q:w.cell? ⟨i,5,N⟩=S (I J a))(p:i≠sb)(O:i≠l)(hl:b.length<=255)(Y:vu w)(P:sb≠6)(M:l≠6)(a2:0<=a)(a3:a<=1000):Y8 Ys 169 #[YV (S ⟨sb,0,N⟩)] w λe Z=>e=YX (YY #[])/\bQ Z sb l ((C.setIfInBounds 5 (YW YT)).setIfInBounds 8 (YV N)) [[50,53,48,45]++b++[13,10],[50,53,48,45,83,73,90,69,32]++Lib.itoa a++[13,10],[50,53,48,32,65,85,84,72,32,80,76,65,73,78,13,10]]/\aC (λk=>k=sb\/k=l) w Z:=by
 have hz:=h.size;obtain ⟨v5,R⟩:∃q,C[5]? =S q:=⟨_,Si (by omega)⟩;have c5:=(h.cell 5).trans R;have f5:=h.frozen 5;have c0:=(h.cell 0).trans V;have A:aA sb w (w.setCell ⟨sb,5,N⟩ (YW YT)):=(aA.refl _ _).setCell _;have a0:(w.setCell ⟨sb,5,N⟩ (YW YT)).cell? ⟨i,0,N⟩=S (T (bs b)):=(A.cell p).trans hh;have U:=h.set 5 (by decide) (YW YT);have o:=Y.same A P;have HT:=K (U.tell (by simp) ([50,53,48,45]++b) (by rw [RI];simp;omega));have g:(⟨#[50,53,48,45]⟩:QL)++bs b=bs ([50,53,48,45]++b):=aQ [50,53,48,45] b;have c:(⟨#[50,53,48,45,83,73,90,69,32]⟩:QL)++bs (Lib.itoa a)=bs ([50,53,48,45,83,73,90,69,32]++Lib.itoa a):=aQ [50,53,48,45,83,73,90,69,32] _
 have a1:(Lib.itoa a).length<=4:=by
  unfold Lib.itoa;rw [if_neg (by omega)];exact mu _ 3 (by omega)
 have HA:=K g;have r:=K c;have X:=aj b;have a4:=aj (Lib.itoa a);have B:(C.setIfInBounds 5 (YW YT))[0]? =S (YV (S ⟨i,0,N⟩)):=by rw [Array.getElem?_setIfInBounds_ne (by decide)];exact V
 have HP:H (vu (w.setCell ⟨sb,5,N⟩ (YW YT))):=K o;have m:=K A;clear h U g c Y o;go_enter_defers func169,ntmps169
 go_wp2_with fail
 rw [HA.out];refine HT.out.mono ?_;rintro e w1 ⟨rfl,D,d⟩;have d0:=(D.cell 0).trans B;have d5:w1.cell? ⟨i,5,N⟩=S (I J a):=(d.cell O).trans ((m.out.cell p).trans Q);have u:H (vu w1):=K (HP.out.same d M);have t:=K D;have v:=K d;clear D d;go_wp2_with fail
 refine (E9 a (by omega) (by omega) _ u.out).mono ?_;rintro e w2 ⟨rfl,j⟩;have y:=K ((t.out.below j).tell (by simp) ([50,53,48,45,83,73,90,69,32]++Lib.itoa a) (by rw [RI];simp;omega));have s:=K j;clear j;go_wp2_with fail
 rw [r.out];refine y.out.mono ?_;rintro e w3 ⟨rfl,W,n⟩;have z:=K (W.tell (by simp) [50,53,48,32,65,85,84,72,32,80,76,65,73,78] (by decide));have x:=K n;clear W n;go_wp2_with fail
 refine z.out.mono ?_;rintro e w4 ⟨rfl,E,G⟩;obtain ⟨q,hv⟩:∃q,(C.setIfInBounds 5 (YW YT))[8]? =S q:=⟨_,Si (by simp;omega)⟩;have S5:aA sb w4 (w4.setCell ⟨sb,8,N⟩ (YV N)):=(aA.refl _ _).setCell _;go_wp2_with fail
 refine leaves_cons (f:=225) (args:=#[YV (S ⟨sb,0,N⟩)]) (by simp) (by simp [go_sem]) ?_;refine (pC sb q .returning _ ((E.cell 8).trans hv) (E.frozen 8)).mono ?_;rintro e u' a5 ⟨rfl,rfl,rfl⟩;refine ⟨_,RP rfl _ _ _,rfl,by simpa using E.set 8 (by decide) (YV N),?_⟩
 exact (((((aC.same m.out).mono (λ_ _ e=>Y4 e):aC (λk=>k=sb\/k=l) w _).trans (aC.same v.out) (λ_ _ e=>Y5 e)).trans (aC.below s.out:aC (λ_=>False) _ _) (λk _ e=>e.elim)).trans (aC.same x.out) (λ_ _ e=>Y5 e) |>.trans (aC.same G) (λ_ _ e=>Y5 e)).trans (aC.same S5) (λ_ _ e=>Y4 e)
theorem kz{P:Program}{w:QI}{c:Array Oper}{o:Oper}{a:Act}{b:Act->QI->Prop}{Q:Exit->Act->QI->Prop}{E:Prop}(d:o.guard=N)(s x:Operand)(t u:Za)
  (f:o.op= .call {callee:= .builtin .append,args:=#[s,x],argTypes:=#[t,u]}) (v y r:QJ) (e:QI) (i:a.eval s=v) (k:a.eval x=y) (g:(Builtin.append_ #[t,u] o.type #[v,y]).run P w= .ok r e) (h:b (a.put o.dst r) e):
  if Region.wanted o (yielded c a.tmps)=YT then Oper.wp P o a w b Q else E:=by
 have j:Region.wanted o (yielded c a.tmps)=YT:=by simp [Region.wanted,d]
 rw [if_pos j];unfold Oper.wp execOp;simp only [f,resolve,invoke,builtin,Rz,RA,RC,RD,RE,RF,i,k,g];exact h
structure dm where
 text:QF
 has:Bool
 bad:Bool
def dC:QF->QF
 | []=>[]
 | x::l=>if x=46 then l else x::l
theorem qH(l:QF):(dC l).length<=l.length:=by
 cases l with
 | nil=>exact QR _
 | cons x l=>
  show (if x=46 then l else x::l).length<=_
  split <;> simp
theorem Ad(l:QF):Lib.trimPrefix l [46]=dC l:=by
 cases l with
 | nil=>rfl
 | cons x l=>
  unfold Lib.trimPrefix Lib.hasPrefix dC
  by_cases h:x=46
  .subst h;simp [List.isPrefixOf]
  have:(46:UInt8)≠x:=λe=>h e.symm;simp [List.isPrefixOf,this,h]
def dm.add(B:dm)(t:QF)(isBad:Bool)(size:Int):dm:=
 if size < (B.text.length:Int) then {B with bad:=B.bad || isBad} else ⟨(if B.has then B.text++[13,10] else B.text)++dC t,YT,B.bad || isBad⟩
structure gD(w:QI)(bb:Nat)(vt:QJ)(B:dm):Prop where
 xp:w.heap[bb]? =S (YU #[vt,YW B.has,YW B.bad] 273 (0,0))
 row:w.ownsRowF 0 5 1 vt B.text.length (Lib.byteCells B.text)
theorem I1{w:QI}{b i n:Nat}{e:Za}{v:QJ}{j:List QJ}(h:w.ownsRowF b e i v n j):∃a m c,v=L a m c:=by
 rcases h.2 with ⟨e,_⟩ | ⟨g,d,f,k,e,_⟩
 .exact ⟨_,_,_,e⟩
 exact ⟨_,_,_,e⟩
theorem zS{w:QI}{b j n:Nat}{e:Za}{v:QJ}{k:List QJ}(h:w.ownsRowF b e j v n k):∃a c,v=L a n c:=by
 rcases h.2 with ⟨e,i⟩ | ⟨g,d,f,l,e,_⟩
 .exact ⟨N,0,by rw [e,i]⟩
 exact ⟨_,_,e⟩
theorem gW{w:QI}{b j n g:Nat}{e:Za}{v:QJ}{k:List QJ}(h:w.ownsRowF b e j v n k)(a:v.ownBlock=S g):∃c z,w.heap[g]? =S (YU c e z):=by
 rcases h.2 with ⟨d,_⟩ | ⟨m,f,c,l,d,_,i,_⟩
 .rw [d] at a;cases a
 rw [d] at a;injection a with a;subst a;exact ⟨_,_,i⟩
theorem Gi{A:Nat->Prop}{w i:QI}{a f n:Nat}{e:Za}{v:QJ}{j:List QJ}(h:w.ownsRowF a e f v n j)(o:aC A w i)(p:∀g,v.ownBlock=S g->¬A g):i.ownsRowF a e f v n j:=by
 refine ⟨h.1,?_⟩
 rcases h.2 with h | ⟨g,b,c,m,d,k,l,r⟩
 .exact Y4 h
 exact Y5 ⟨g,b,c,m,d,k,o.some_ l (p g (by rw [d];rfl)),r⟩
theorem gD.far{w:QI}{a:Nat}{c:QJ}{B:dm}(h:gD w a c B):c.ownBlock≠S a:=λe=>by
 obtain ⟨d,z,b⟩:=gW h.row e;rw [h.xp] at b;simp at b
theorem gD.xt{A:Nat->Prop}{w d:QI}{a:Nat}{b:QJ}{B:dm}(h:gD w a b B)(c:aC A w d)(e:¬A a)(f:∀g,b.ownBlock=S g->¬A g):gD d a b B:=⟨c.some_ h.xp e,Gi h.row c f⟩
theorem gD.app{w:QI}{b:Nat}{g:QJ}{B:dm}(h:gD w b g B)(l:QF)(x:B.text.length+l.length<=140737488355328):∃a n c o,(Builtin.append_ #[100,9] 100 #[g,T (bs l)]).run Ys w= .ok (L a n c) o/\gD (o.setCell ⟨b,0,N⟩ (L a n c)) b (L a n c) ⟨B.text++l,B.has,B.bad⟩/\o.heap[b]? =S (YU #[g,YW B.has,YW B.bad] 273 (0,0))/\aC (λk=>g.ownBlock=S k) w o/\∀k,(L a n c).ownBlock=S k->g.ownBlock=S k\/w.heap.size<=k:=by
 obtain ⟨i,C,s,t,u⟩:=Rr mN;have q:=aj l;obtain ⟨D,m,p,f,j,r⟩:=kX (P:=Ys) w 0 100 9 100 5 i underlying100 underlying9 C s t u g B.text.length (Lib.byteCells B.text) h.row (bs l) (by unfold maxLen;omega) (by omega) (QS _);obtain ⟨a,n,c,rfl⟩:=I1 f;have d:m.heap[b]? =S (YU #[g,YW B.has,YW B.bad] 273 (0,0)):=(j.block b (aq h.xp) (λe=>h.far e.symm)).trans h.xp;refine ⟨a,n,c,m,p,⟨Ro m b 0 _ _ _ d,?_⟩,d,aC.grown j,r⟩;have y:aA b m (m.setCell ⟨b,0,N⟩ (L a n c)):=(aA.refl _ _).setCell _;rw [mG,RI, <-q];refine ly f y (λe=>?_);obtain ⟨A,z,v⟩:=gW f e;rw [d] at v;simp at v
theorem JY(b:Bool)(c:Nat)(m:QJ)(d:QF)(i:Bool)(t:QF)(a:Bool)(g:Int)(w:QI)(h:gD w c m ⟨d,i,b⟩)(hB:d.length<=1073741824)(ht:t.length<=1048576):Y8 Ys 164 #[YV (S ⟨c,0,N⟩),YZ #[T (bs t),YW a],I J g] w λe w'=>e=YX (YY #[])/\∃a8,gD w' c a8 (dm.add ⟨d,i,b⟩ t a g)/\aC (λk=>k=c\/m.ownBlock=S k) w w'/\∀k,a8.ownBlock=S k->m.ownBlock=S k\/w.heap.size<=k:=by
 obtain ⟨M,a6⟩:=QE (w.alloc (YU #[T (bs t),YW a] 120));have B0:=QG a6;have X0:=QH a6;have bl:=aq h.xp;have o:c≠w.heap.size:=by omega
 have y:gD M c m ⟨d,i,b⟩:=h.xt (A:=λ_=>False) (aC.below B0) (λe=>e) (λ_ _ e=>e);have s:aA c M (M.setCell ⟨c,2,N⟩ (YW (b || a))):=(aA.refl _ _).setCell _;have j:gD (M.setCell ⟨c,2,N⟩ (YW (b || a))) c m ⟨d,i,b || a⟩:=⟨Ro M c 2 _ _ (YW (b || a)) y.xp,ly y.row s y.far⟩;obtain ⟨l0,l1⟩:=QM X0;have c2:M.cell? ⟨c,2,N⟩=S (YW b):=Q3 y.xp _;have f2:=RJ y.xp 2;obtain ⟨n,x⟩:=QE (M.setCell ⟨c,2,N⟩ (YW (b || a)));rw [x] at j s;have m0:n.cell? ⟨w.heap.size,0,N⟩=S (T (bs t)):=(s.cell (Ne.symm o)).trans l0;have c0:n.cell? ⟨c,0,N⟩=S m:=Q3 j.xp _;have c1:n.cell? ⟨c,1,N⟩=S (YW i):=Q3 j.xp _;have f0:=RJ j.xp 0;have f1:=RJ j.xp 1;obtain ⟨av,cv,ev⟩:=zS j.row;simp only at ev;have O:n.heap[w.heap.size]? =S (YU #[T (bs t),YW a] 120 (0,0)):=(s.2 _ (Ne.symm o)).trans X0;have Z:aC (λk=>k=c\/m.ownBlock=S k) w n:=(aC.below B0).trans (aC.same s) (λ_ _ e=>Y4 e);have c5:w.heap.size < n.heap.size:=by rw [s.1];exact aq X0
 have a9:=K j;have a0:=K Z;have b6:=K O;have a2:=K (qH t)
 have a5:H (∀W:QI,Y8 Ys 228 #[T (bs t),T ⟨#[46]⟩] W λe w'=>e=YX (T (bs (dC t)))/\W=w'):=K (λW=>(Tryz.strings_TrimPrefix (bs t) ⟨#[46]⟩ W).mono (by
  rintro e w' ⟨rfl,rfl⟩
  exact ⟨by rw [<-Ad];rfl,rfl⟩))
 by_cases V:g < (d.length:Int)
 .have HR:H (dm.add ⟨d,i,b⟩ t a g=⟨d,i,b || a⟩):=K (by simp [dm.add,V]);clear h y j B0 X0 s O Z;subst ev
  cases b
  all_goals
   simp only [Bool.true_or,Q6] at x;go_enter func164,ntmps164;go_wp2_with fail
   refine Ru (v:=YY #[]) (by simp [results,results164,go_sem]) rfl ?_;exact ⟨rfl,_,by rw [HR.out];exact a9.out,a0.out,λk e=>Y4 e⟩
 cases i
 case false=>
  have HR:H (dm.add ⟨d,F,b⟩ t a g=⟨d++dC t,YT,b || a⟩):=K (by simp [dm.add,V]);have r:gD (n.setCell ⟨c,1,N⟩ (YW YT)) c m ⟨d,YT,b || a⟩:=⟨Ro n c 1 _ _ (YW YT) j.xp,ly j.row ((aA.refl _ _).setCell _) j.far⟩;have u:aA c n (n.setCell ⟨c,1,N⟩ (YW YT)):=(aA.refl _ _).setCell _;obtain ⟨f,R⟩:=QE (n.setCell ⟨c,1,N⟩ (YW YT));rw [R] at r u;have X2:f.heap[w.heap.size]? =S (YU #[T (bs t),YW a] 120 (0,0)):=(u.2 _ (Ne.symm o)).trans O;have n0:f.drew.cell? ⟨w.heap.size,0,N⟩=S (T (bs t)):=by show f.cell? _=_;rw [Q3 X2];rfl
  have d0:f.drew.cell? ⟨c,0,N⟩=S m:=by show f.cell? _=_;rw [Q3 r.xp];rfl
  obtain ⟨a3,n3,c3,B,p,H3,l,K3,q⟩:=gD.app (w:=f.drew) (r.xt (A:=λ_=>False) (aC.below ((QQ _ _).drew)) (λe=>e) (λ_ _ e=>e)) (dC t) (by simp only;have:=a2.out;omega);have d3:B.cell? ⟨c,0,N⟩=S m:=Q3 l _;have f3:=RJ l 0;have a1:=K u;have D:=K H3;have b0:=K K3;have E:=K p;have G:=K q;clear h y j B0 X0 s O Z r u X2 H3 K3 p q l;subst ev
  cases b
  all_goals
   simp only [Bool.true_or,Q6] at x;go_enter func164,ntmps164;go_wp2_with fail
   go_region_law (first
    | (refine kz rfl _ _ 100 9 rfl _ _ _ B rfl rfl E.out ?_)
    | (go_simp;go_at_call 228;refine (a5.out f.drew).mono ?_;rintro e w9 ⟨rfl,rfl⟩;dsimp only))
   all_goals
    go_wp2_with fail
    refine RN (RP rfl _ _ _) rfl ?_;refine ⟨rfl,_,by rw [HR.out];exact D.out,?_,?_⟩
    .exact ((a0.out.trans (aC.same a1.out) (λ_ _ e=>Y4 e)).trans ((aC.below ((QQ _ _).drew)).trans b0.out (λk _ e=>e):aC (λk=>(L av d.length cv).ownBlock=S k) f B) (λ_ _ e=>Y5 e)).trans (aC.same ((aA.refl _ _).setCell _)) (λ_ _ e=>Y4 e)
    exact λk e=>(G.out k e).imp id (λe=>by have:=a1.out.1;have:f.heap.size<=k:=e;omega)
 have HR:H (dm.add ⟨d,YT,b⟩ t a g=⟨d++[13,10]++dC t,YT,b || a⟩):=K (by simp [dm.add,V]);obtain ⟨P,Y,Q,W4,a7,C,U,K4,X⟩:=j.app [13,10] (by simp only [RQ,RR];omega);have d4:W4.cell? ⟨c,0,N⟩=S m:=Q3 U _;have f4:=RJ U 0;have S5:aA c W4 (W4.setCell ⟨c,0,N⟩ (L P Y Q)):=(aA.refl _ _).setCell _;obtain ⟨W5,b3⟩:=QE (W4.setCell ⟨c,0,N⟩ (L P Y Q));rw [b3] at C S5;have d5:W5.cell? ⟨c,1,N⟩=S (YW YT):=Q3 C.xp _;have f5:=RJ C.xp 1;have r:gD (W5.setCell ⟨c,1,N⟩ (YW YT)) c (L P Y Q) ⟨d++[13,10],YT,b || a⟩:=⟨Ro W5 c 1 _ _ (YW YT) C.xp,ly C.row ((aA.refl _ _).setCell _) C.far⟩;have u:aA c W5 (W5.setCell ⟨c,1,N⟩ (YW YT)):=(aA.refl _ _).setCell _;obtain ⟨f,R⟩:=QE (W5.setCell ⟨c,1,N⟩ (YW YT));rw [R] at r u;have K2:aC (λk=>k=c\/m.ownBlock=S k) w f:=((Z.trans K4 (λ_ _ e=>Y5 e)).trans (aC.same S5) (λ_ _ e=>Y4 e)).trans (aC.same u) (λ_ _ e=>Y4 e)
 have X4:W4.heap[w.heap.size]? =S (YU #[T (bs t),YW a] 120 (0,0)):=K4.some_ O (λe=>by
  obtain ⟨b7,z,h1⟩:=gW j.row e;rw [O] at h1
  simp at h1)
 have X2:f.heap[w.heap.size]? =S (YU #[T (bs t),YW a] 120 (0,0)):=(u.2 _ (Ne.symm o)).trans ((S5.2 _ (Ne.symm o)).trans X4);have n0:f.drew.cell? ⟨w.heap.size,0,N⟩=S (T (bs t)):=by show f.cell? _=_;rw [Q3 X2];rfl
 have d0:f.drew.cell? ⟨c,0,N⟩=S (L P Y Q):=by show f.cell? _=_;rw [Q3 r.xp];rfl
 obtain ⟨a3,n3,c3,B,p,H3,l,K3,q⟩:=gD.app (w:=f.drew) (r.xt (A:=λ_=>False) (aC.below ((QQ _ _).drew)) (λe=>e) (λ_ _ e=>e)) (dC t) (by simp only [RI,RQ,RR];have:=a2.out;omega);have d3:B.cell? ⟨c,0,N⟩=S (L P Y Q):=Q3 l _;have f3:=RJ l 0;have b5:w.heap.size<=f.heap.size:=K2.size;have b4:w.heap.size<=n.heap.size:=Z.size;have KF:aC (λk=>k=c\/m.ownBlock=S k) w B:=K2.trans ((aC.below ((QQ _ _).drew)).trans K3 (λk _ e=>e):aC (λk=>(L P Y Q).ownBlock=S k) f B) (λk hk e=>(X k e).elim (λe=>Y5 e) (λe=>absurd hk (by omega)));have G:H (∀k,(L a3 n3 c3).ownBlock=S k->m.ownBlock=S k\/w.heap.size<=k):=K (λk e=>(q k e).elim (λe=>(X k e).imp id (λe=>by omega)) (λe=>Y5 (by have:f.heap.size<=k:=e;omega)));have D:=K H3;have b1:=K KF;have E:=K p;have b2:=K a7;clear h y j B0 X0 s O Z r u X2 H3 K3 p q l C U K4 X a7 S5 K2 X4 KF;subst ev
 cases b
 all_goals
  simp only [Bool.true_or,Q6] at x;go_enter func164,ntmps164
  go_wp2_with (first
   | (at_builtin;refine jA rfl _ _ 100 9 rfl _ (L P Y Q) (bs [13,10]) W4 rfl rfl b2.out ?_)
   | fail)
  go_region_law (first
   | (refine kz rfl _ _ 100 9 rfl _ _ _ B rfl rfl E.out ?_)
   | (go_simp;go_at_call 228;refine (a5.out f.drew).mono ?_;rintro e w9 ⟨rfl,rfl⟩;dsimp only))
  all_goals
   go_wp2_with fail
   refine RN (RP rfl _ _ _) rfl ?_;exact ⟨rfl,_,by rw [HR.out];exact D.out,b1.out.trans (aC.same ((aA.refl _ _).setCell _)) (λ_ _ e=>Y4 e),G.out⟩
theorem Ev(c:Nat)(f:QJ)(B:dm)(t:QF)(a:Bool)(b:Int)(w:QI)(h:gD w c f B)(m:B.text.length<=1073741824)(n:t.length<=1048576):Y8 Ys 164 #[YV (S ⟨c,0,N⟩),YZ #[T (bs t),YW a],I J b] w λe l=>e=YX (YY #[])/\∃d,gD l c d (B.add t a b)/\aC (λk=>k=c\/f.ownBlock=S k) w l/\∀k,d.ownBlock=S k->f.ownBlock=S k\/w.heap.size<=k:=by
 obtain ⟨j,i,g⟩:=B;exact JY g c f j i t a b w h m n
theorem ku(P:Program)(g o:Nat)(t:Za)(b:Nat×Nat):∀(d:List QJ) (i:Nat) (a:Array QJ) (w:QI),w.heap[g]? =S (YU a t b)->(b.2<=o+i\/o+i+d.length<=b.1)->o+i+d.length<=a.size->(∀v∈d,v.oneCell'=YT)->
  (storeCells ⟨g,o,N⟩ d i).run P w= .ok () (w.setRow g (a.toList.take (o+i)++d++a.toList.drop (o+i+d.length)).toArray)
 | [],i,a,w,hg,_,_,_=>by
  simp only [storeCells,Sj,RR,QT,List.take_append_drop,Array.toArray_toList];rw [setRow_self w g a t b hg];rfl
 | v::rest,i,a,w,hg,hfz,hl,h1=>by
  have k:o+i < a.size:=by simp at hl;omega
  have f:(⟨g,o,N⟩:Addr).add i=⟨g,o+i,N⟩:=by unfold Addr.add;split <;> simp_all
  have c:w.cell? ⟨g,o+i,N⟩=S a[o+i]:=by simp [World.cell?,hg,k]
  have h:w.frozen? ⟨g,o+i,N⟩=F:=by
   obtain ⟨p,l⟩:=b;simp only [World.frozen?,hg,Bool.and_eq_false_iff,decide_eq_false_iff_not];simp only [RQ] at hfz;omega
  have j:(store ((⟨g,o,N⟩:Addr).add i) v).run P w= .ok () (w.setRow g (a.setIfInBounds (o+i) v)):=by
   rw [f,run_store P w _ v _ (h1 v (by simp)),c];simp [h,setCell_eq_setRow w g (o+i) a t b v hg]
  have n:=ku P g o t b rest (i+1) (a.setIfInBounds (o+i) v) (w.setRow g (a.setIfInBounds (o+i) v)) (Vq w g a _ t _ hg) (by simp only [RQ] at hfz;omega) (by simp at hl ⊢;omega) (λx m=>h1 x (by simp [m]));simp only [storeCells,Rz,j,RC,n,setRow_setRow]
  congr 3
  have e:=list_seg_step a.toList (o+i) v rest (by simp at hl ⊢;omega);simpa [Array.toList_setIfInBounds,Nat.add_assoc] using e
def eQ(w:QI)(v:QJ)(l:QF):Prop:=
 (v=L N 0 0/\l=[])\/∃g cap cur fz,v=L (S ⟨g,0,N⟩) l.length cap/\w.heap[g]? =S (YU cur 5 fz)/\(fz.2<=l.length\/cap<=fz.1)/\l.length<=cap/\cap<=Y7/\cur.size=cap/\cur.toList.take l.length=Lib.byteCells l
theorem iz(l:QF):(Lib.byteCells l).length=l.length:=by simp [Lib.byteCells]
theorem eQ.nil(w:QI):eQ w (L N 0 0) []:=Y4 ⟨rfl,rfl⟩
theorem eQ.zh{w:QI}{base:Nat}{v:QJ}{l:QF}(h:w.ownsRowF base 5 1 v l.length (Lib.byteCells l)):eQ w v l:=by
 rcases h.2 with ⟨c,f⟩ | ⟨g,a,b,e,c,_,i,m,j,k,n,d⟩
 .exact Y4 ⟨c,TC.1 f⟩
 exact Y5 ⟨g,a,b,e,c,i,Y4 (by omega),j,k,by omega,by rw [Nat.mul_one] at d;exact d⟩
theorem eQ.len{w:QI}{v:QJ}{l:QF}(h:eQ w v l):∃a c,v=L a l.length c:=by
 rcases h with ⟨b,f⟩ | ⟨g,d,e,i,b,_⟩
 .exact ⟨N,0,by rw [b,f];rfl⟩
 exact ⟨_,_,b⟩
theorem eQ.tag{w:QI}{v:QJ}{l:QF}(h:eQ w v l){g:Nat}(a:v.ownBlock=S g):∃b z,w.heap[g]? =S (YU b 5 z):=by
 rcases h with ⟨c,_⟩ | ⟨i,d,b,f,c,e,_⟩
 .rw [c] at a;cases a
 rw [c] at a;injection a with a;subst a;exact ⟨_,_,e⟩
theorem eQ.lt{w:QI}{v:QJ}{l:QF}(h:eQ w v l){g:Nat}(c:v.ownBlock=S g):g < w.heap.size:=by
 obtain ⟨a,z,b⟩:=h.tag c;exact aq b
theorem eQ.xt{A:Nat->Prop}{w d:QI}{v:QJ}{l:QF}(h:eQ w v l)(i:aC A w d)(j:∀g,v.ownBlock=S g->¬A g):eQ d v l:=by
 rcases h with h | ⟨g,a,b,e,c,f,r⟩
 .exact Y4 h
 exact Y5 ⟨g,a,b,e,c,i.some_ f (j g (by rw [c];rfl)),r⟩
theorem eQ.below{w a:QI}{v:QJ}{l:QF}(h:eQ w v l)(b:Y6 w.heap.size w a):eQ a v l:=h.xt (aC.below b:aC (λ_=>False) w a) (λ_ _ e=>e)
theorem eQ.cell{w:QI}{v:QJ}{l:QF}(h:eQ w v l){g:Nat}(b:v.ownBlock=S g)(j:Nat)(a:j < l.length):w.cell? ⟨g,j,N⟩=S (I .u8 ((l.getD j 0).toNat:Int)):=by
 rcases h with ⟨_,c⟩ | ⟨m,d,e,k,c,f,_,_,_,_,i⟩
 .rw [c] at a;simp at a
 rw [c] at b;injection b with b;subst b;rw [Q3 f, <-Sl, <-Sk a,i,Lib.byteCells,TV,Re a,Q5,Re a];rfl
theorem eQ.cells{w:QI}{l:QF}{g n c:Nat}(h:eQ w (L (S ⟨g,0,N⟩) n c) l):∀j u,(Lib.byteCells l)[j]? =S u->w.cell? ((⟨g,0,N⟩:Addr).add j)=S u:=by
 intro j u d;have a:(⟨g,0,N⟩:Addr).add j=⟨g,j,N⟩:=by unfold Addr.add;split <;> simp_all
 have b:j < l.length:=by have:=(RT.1 d).1;rwa [iz] at this
 rw [a,h.cell rfl j b, <-d,Lib.byteCells,TV,Re b,Q5,Re b];rfl
theorem eQ.string{w:QI}{v:QJ}{l:QF}(h:eQ w v l):(convert 100 9 v).run Ys w= .ok (T (bs l)) w:=by
 rcases h with ⟨rfl,rfl⟩ | ⟨g,cap,a,b,rfl,c,r⟩
 .rw [run_convert_bytes_string w 100 9 5 N 0 0 underlying100 underlying5 underlying9];simp [Conv.bytesToString,RA];rfl
 exact ib w g cap l.length l rfl (λj d=>eQ.cell (Y5 ⟨g,cap,a,b,rfl,c,r⟩) rfl j d)
theorem eQ.conv(w:QI)(l:QF)(d:l.length<=Y7):eQ (Lib.bytesWorld w 5 (bs l)) (.slice (S ⟨w.heap.size,0,N⟩) (bs l).size (grownCap w (bs l).size 0 5)) l:=by
 have a:=aj l;have b:=Us w l.length 0 5;have c:=Uw w l.length 0 5 d;refine Y5 ⟨w.heap.size,grownCap w l.length 0 5,_,_,by rw [a],Lib.bytesWorld_at_new w 5 (bs l),Y5 ?_,b,c,?_,?_⟩
 .simp only [Lib.bytesCells,a,Ut,Uu,Array.size_replicate];have:(bs l).data.size=l.length:=a;omega
 .simp only [Lib.bytesCells,a,Ut,Uu,Array.size_replicate];have:(bs l).data.size=l.length:=a;omega
 simp only [Lib.bytesCells,Uv,Array.toList_map];rw [List.take_left' (by simp [bs])];simp [Lib.byteCells,bs]
theorem se{α:Type}(a b c:List α){n:Nat}(h:n=a.length+b.length):(a++b++c).take n=a++b:=by
 rw [h, <-RI];exact List.take_left
theorem eQ.text{w:QI}{v:QJ}{l:QF}(h:eQ w v l)(s:QF)(V:l.length+s.length<=140737488355328):∃a n c B,(Builtin.append_ #[100,9] 100 #[v,T (bs s)]).run Ys w= .ok (L a n c) B/\eQ B (L a n c) (l++s)/\aC (λk=>v.ownBlock=S k) w B/\∀k,(L a n c).ownBlock=S k->v.ownBlock=S k\/w.heap.size<=k:=by
 obtain ⟨i,O,z,p,A⟩:=Rr mN;have x:=aj s
 rcases h with ⟨rfl,rfl⟩ | ⟨g,b,f,C,rfl,q,G,Z,R,h7,U⟩
 .obtain ⟨v',B,Y,E,q,G⟩:=kX (P:=Ys) w 0 100 9 100 5 i underlying100 underlying9 O z p A (L N 0 0) 0 [] (World.ownsRowF_nil w 0 5 1) (bs s) (by unfold maxLen;simp at V;omega) (by simp at V;omega) (QS _)
  obtain ⟨a,n,c,rfl⟩:∃a m c,v'=L a m c:=by
   rcases E.2 with ⟨e,_⟩ | ⟨g,b,f,C,e,_⟩
   .exact ⟨_,_,_,e⟩
   exact ⟨_,_,_,e⟩
  refine ⟨a,n,c,B,Y,eQ.zh (base:=0) ?_,aC.grown q,G⟩;have X:[]++Lib.strCells (bs s)=Lib.byteCells s:=by simp [Lib.byteCells,Lib.strCells,bs]
  rw [X,TD,x] at E;exact E
 have hH:eQ w (L (S ⟨g,0,N⟩) l.length b) l:=Y5 ⟨g,b,f,C,rfl,q,G,Z,R,h7,U⟩;have d:Lib.strCells (bs s)=Lib.byteCells s:=by simp [Lib.byteCells,Lib.strCells,bs]
 have t:=iz s;have u:=iz l;have r:Lib.byteCells (l++s)=Lib.byteCells l++Lib.byteCells s:=by simp [Lib.byteCells]
 by_cases j:l.length+s.length<=b
 .have W:=Lib.run_firstCells_string (P:=Ys) w 1 (bs s);have y:=ku Ys g l.length 5 C (Lib.strCells (bs s)) 0 f w q (by rw [d];omega) (by rw [d];omega) (Lib.strCells_oneCell (bs s));simp only [QT,Lib.strCells_length,x] at y;rw [x] at W
  have D:(Builtin.append_ #[100,9] 100 #[L (S ⟨g,0,N⟩) l.length b,T (bs s)]).run Ys w= .ok (L (S ⟨g,0,N⟩) (l.length+s.length) b) (w.setRow g (f.toList.take l.length++Lib.strCells (bs s)++f.toList.drop (l.length+s.length)).toArray):=by
   simp [Builtin.append_,TB underlying100,TB underlying9,sizeOf,typeInfo,O,p,Builtin.lenOf,x,j,W,Addr.add_lit,y]
  refine ⟨_,_,_,_,D,Y5 ⟨g,b,_,C,by rw [RI],Vq w g f _ 5 _ q,by rw [RI];omega,by rw [RI];exact j,R,?_,?_⟩,⟨by simp [World.setRow],λk _ o=>setRow_other w g k _ (λe=>o (by rw [e];rfl)),⟨rfl,rfl,rfl⟩⟩,λk o=>Y4 o⟩
  .simp only [Vr,RI,Sm,Rq,TK,d,t];omega
  rw [U,d,r,RI];exact se _ _ _ (by omega)
 have D:=Lib.run_append_grow_string (P:=Ys) w 100 9 100 5 i (I .u8 0) underlying100 underlying9 O z ⟨g,0,N⟩ l.length b (Lib.byteCells l) (by rw [p];omega) hH.cells (bs s) (by omega) (by omega) (by rw [A];exact UU (by omega) (by omega));rw [x] at D;have M:=Us w (l.length+s.length) b 5;have Q:=Uw w (l.length+s.length) b 5 (by unfold maxLen;omega);refine ⟨_,_,_,_,D,Y5 ⟨w.heap.size,_,_,(0,0),by rw [RI],Q0 w.drew _,Y4 (QS _),by rw [RI];exact M,Q,?_,?_⟩,aC.below ((QQ w.heap.size w).drew.alloc (QR _) _),λk o=>Y5 (by injection o with o;exact Nat.le_of_eq o)⟩
 .have hq:(I IntKind.u8 0).cells.size=1:=rfl;simp only [Ut,Vr,size_zeroCells,hq,d,t,u];omega
 simp only [Uv,d,r,RI];exact se _ _ _ (by omega)
theorem eQ.one{w W:QI}{v:QJ}{l:QF}(h:eQ w v l)(x:UInt8)(r:Y6 w.heap.size w W)(hW:W.heap[w.heap.size]? =S (YU #[I .u8 (x.toNat:Int)] 5 (0,0)))(hb:l.length+1<=140737488355328):∃a n c D,(Builtin.append_ #[100,100] 100 #[v,L (S ⟨w.heap.size,0,N⟩) 1 1]).run Ys W= .ok (L a n c) D/\eQ D (L a n c) (l++[x])/\aC (λk=>v.ownBlock=S k) w D/\∀k,(L a n c).ownBlock=S k->v.ownBlock=S k\/w.heap.size<=k:=by
 obtain ⟨i,O,B,p,C⟩:=Rr mN;have d:∀j u,[I .u8 (x.toNat:Int)][j]? =S u->W.cell? ((⟨w.heap.size,0,N⟩:Addr).add j)=S u:=World.news_of_block (cs:=#[I .u8 (x.toNat:Int)]) (t:=5) (fr:=(0,0)) hW;have G:=h.below r;have s:Lib.byteCells (l++[x])=Lib.byteCells l++[I .u8 (x.toNat:Int)]:=by simp [Lib.byteCells]
 have y:=iz l
 rcases G with ⟨rfl,rfl⟩ | ⟨g,b,m,E,rfl,q,Z,h5,U,h7,V⟩
 .obtain ⟨g,b,D,X,Y,q⟩:=jb (P:=Ys) W 100 100 0 5 i (I .u8 0) 1 1 underlying100 O B p C rfl (by decide) (L N 0 0) 0 [] ⟨rfl,Y4 ⟨rfl,rfl⟩⟩ ⟨w.heap.size,0,N⟩ 1 1 [I .u8 (x.toNat:Int)] rfl d (by intro u A;simp at A;rw [A];rfl) (by decide) (by unfold maxLen;decide) (by decide) (QS _)
  rcases q with ⟨e,_⟩ | ⟨e,q⟩
  .cases e
  refine ⟨_,_,_,D,X,eQ.zh (base:=0) (World.ownsRowF_of Y),(aC.below r:aC _ w W).trans (aC.grown q) (λk _ e=>by cases e),λk f=>Y5 ?_⟩;injection f with f;have f:g=k:=f;have:=r.size;omega
 have hH:eQ W (L (S ⟨g,0,N⟩) l.length b) l:=Y5 ⟨g,b,m,E,rfl,q,Z,h5,U,h7,V⟩
 by_cases o:l.length+1<=b
 .have hf:=run_firstCells_some (P:=Ys) W 1 1 ⟨w.heap.size,0,N⟩ 1 1 [I .u8 (x.toNat:Int)] rfl d;have z:=ku Ys g l.length 5 E [I .u8 (x.toNat:Int)] 0 m W q (by simp only [RQ,RR];omega) (by simp only [RQ,RR];omega) (by intro u A;simp at A;rw [A];rfl);simp only [QT,RQ,RR,TD] at z
  have R:(Builtin.append_ #[100,100] 100 #[L (S ⟨g,0,N⟩) l.length b,L (S ⟨w.heap.size,0,N⟩) 1 1]).run Ys W= .ok (L (S ⟨g,0,N⟩) (l.length+1) b) (W.setRow g (m.toList.take l.length++[I .u8 (x.toNat:Int)]++m.toList.drop (l.length+1)).toArray):=by
   simp [Builtin.append_,TB underlying100,sizeOf,typeInfo,O,p,Builtin.lenOf,o,hf,Addr.add_lit,z]
  refine ⟨_,_,_,_,R,Y5 ⟨g,b,_,E,by rw [RI];rfl,Vq W g m _ 5 _ q,by rw [RI];simp only [RQ,RR];omega,by rw [RI];exact o,U,?_,?_⟩,(aC.below r:aC _ w W).trans (A1:=λk=>k=g) ⟨by simp [World.setRow],λk _ f=>setRow_other W g k _ f,⟨rfl,rfl,rfl⟩⟩ (λk _ e=>by rw [e];rfl),λk f=>Y4 f⟩
  .simp only [Vr,RI,Sm,Rq,TK,RQ,RR];omega
  rw [V,s,RI];exact se _ _ _ (by simp only [RQ,RR];omega)
 have R:=run_append_grow (P:=Ys) W 100 100 5 i (I .u8 0) underlying100 O B ⟨g,0,N⟩ l.length b (Lib.byteCells l) (by rw [p];omega) hH.cells ⟨w.heap.size,0,N⟩ 1 1 [I .u8 (x.toNat:Int)] (by rw [p];rfl) d (by omega) (by omega) (by rw [C];exact UU (by omega) (by omega));have M:=Us W (l.length+1) b 5;have Q:=Uw W (l.length+1) b 5 (by unfold maxLen;omega);refine ⟨_,_,_,_,R,Y5 ⟨W.heap.size,_,_,(0,0),by rw [RI];rfl,Q0 W.drew _,Y4 (QS _),by rw [RI];exact M,Q,?_,?_⟩,(aC.below r:aC _ w W).trans (aC.below ((QQ W.heap.size W).drew.alloc (QR _) _):aC (λ_=>False) _ _) (λ_ _ e=>e.elim),λk f=>Y5 (by injection f with f;have f:W.heap.size=k:=f;have:=r.size;omega)⟩
 .have hq:(I IntKind.u8 0).cells.size=1:=rfl;simp only [Ut,Vr,size_zeroCells,hq,y,RQ,RR];omega
 simp only [Uv,s,RI];exact se _ _ _ (by simp only [RQ,RR];omega)
theorem nc:∀(k n:Nat),aG (k+1) n=UInt8.ofNat (n / 256 ^ k)::aG k n
 | 0,n=>by simp [aG]
 | k+1,n=>by
  rw [aG,nc k (n / 256),Nat.div_div_eq_div_mul, <-Nat.pow_succ',aG];rfl
theorem vJ:∀(a n k:Nat) (h:k < a),(aG a n)[k]'(by rw [aY];exact h)=UInt8.ofNat (n / 256 ^ (a - 1 - k))
 | 0,n,k,h=>by omega
 | a+1,n,0,h=>by simp [nc]
 | a+1,n,k+1,h=>by
  simp only [nc,List.getElem_cons_succ];rw [vJ a n k (by omega)]
  congr 3
  omega
theorem iy(v:QJ)(l:QF)(n a:Nat)(w:QI)(h:eQ w v l)(hl:l.length<=1073741824)(_:n<=4294967295)(hs:1<=a/\a<=4):Y8 Ys 254 #[v,I J n,I J a] w λe p=>∃D,e=YX D/\eQ p D (l++aG a n)/\aC (λk=>v.ownBlock=S k) w p/\∀k,D.ownBlock=S k->v.ownBlock=S k\/w.heap.size<=k:=by
 have V:=K h;clear h;go_enter func254,ntmps254;go_wp2_with fail
 go_loopw [0,7] (λb C p=>∃k:Nat,k<=a/\C=I J (8 * ((a:Int) - k) - 8)/\H (eQ p b (l++(aG a n).take k))/\H (aC (λj=>v.ownBlock=S j) w p)/\H (∀j,b.ownBlock=S j->v.ownBlock=S j\/w.heap.size<=j)) (λ_ C _=>((Y9 C)+8).toNat)
 case atStart=>
  refine ⟨0,QS _,congrArg (I J) (by omega),K ?_,K (aC.refl _ _),K (λ_ e=>Y4 e)⟩;rw [List.take_zero,Sj];exact V.out
 case round=>
  obtain ⟨k,hk,rfl,g,r,t⟩:=hrel
  by_cases m:k < a
  .obtain ⟨d,o⟩:=QE (8 * (a - k) - 8);have Y:(8 * ((a:Int) - k) - 8)=(d:Int):=by omega
   rw [Y];have R:d<=24:=by omega
   have B:((UInt8.ofNat (n / 2 ^ d)).toNat:Int)=(n:Int) / 2 ^ d % 256:=by
    rw [UInt8.toNat_ofNat'];rfl
   have c:(aG a n).take (k+1)=(aG a n).take k++[UInt8.ofNat (n / 2 ^ d)]:=by
    rw [QV (by rw [aY];exact m)]
    congr 2
    rw [vJ a n k m, <-o]
    congr 2
    rw [show (256:Nat)=2 ^ 8 from rfl, <-Nat.pow_mul]
    congr 1
    omega
   obtain ⟨i,q⟩:=QE (l++(aG a n).take k);have a0:i.length<=1073741828:=by rw [<-q,RI,Sm];omega
   have X:H (l++(aG a n).take (k+1)=i++[UInt8.ofNat (n / 2 ^ d)]):=K (by rw [c, <-Sq,q]);rw [q] at g;obtain ⟨av,cv,Z⟩:=g.out.len;subst Z;have z:=Q0 wr (YU #[I .u8 ((n:Int) / 2 ^ d % 256)] 5);rw [<-B] at z;obtain ⟨O,U,P,w3,f,M,E,G⟩:=g.out.one (UInt8.ofNat (n / 2 ^ d)) (W:=wr.alloc (YU #[I .u8 ((UInt8.ofNat (n / 2 ^ d)).toNat:Int)] 5)) ((QQ _ _).alloc (QR _) _) z (by omega);rw [B] at f;have x:=K f;have y:=K M;have s:=K (r.out.trans E (λj hj e=>(t.out j e).elim id (λe=>absurd hj (by omega))));have u:H (∀j,(L O U P).ownBlock=S j->v.ownBlock=S j\/w.heap.size<=j):=K (λj e=>(G j e).elim (t.out j) (λe=>Y5 (Rn r.out.size e)));clear B c q o z f M E G
   go_wp2_with (first
    | (at_builtin;refine bp rfl _ _ 100 rfl _ _ (L O U P) w3 rfl rfl x.out ?_)
    | fail)
   exact ⟨⟨k+1,by omega,congrArg (I J) (by omega),by rw [X.out];exact y,s,u⟩,by simp [Y9];omega⟩
  have A:k=a:=by omega
  subst A;have Q:¬(0:Int)<=8 * ((k:Int) - k) - 8:=by omega
  rw [List.take_of_length_le (by rw [aY];exact QR _)] at g;go_wp2_with fail
  go_ret;exact ⟨_,rfl,g.out,r.out,t.out⟩
theorem mr(v:QJ)(l t:QF)(a:Nat)(w:QI)(h:eQ w v l)(V:l.length<=536870912)(W:t.length<=1048576)(M:1<=a/\a<=4):Y8 Ys 308 #[v,T (bs t),I J a] w λe A=>∃p,e=YX p/\eQ A p (l++(aG a t.length++t))/\aC (λk=>v.ownBlock=S k) w A/\∀k,p.ownBlock=S k->v.ownBlock=S k\/w.heap.size<=k:=by
 have O:=aj t;have B:=K (iy v l t.length a w h (by omega) (by omega) M);obtain ⟨D,E,rfl⟩:=h.len;clear h;go_enter func308,ntmps308;go_wp2_with fail
 refine B.out.mono ?_;rintro e Y ⟨X,rfl,c,m,n⟩;have o:(l++aG a t.length).length<=536870916:=by rw [RI,aY];omega
 have q:H (l++(aG a t.length++t)=(l++aG a t.length)++t):=K (Sq ..).symm;obtain ⟨C,Q⟩:=QE (l++aG a t.length);rw [Q] at c o q;obtain ⟨x,z,y,P,b,u,r,s⟩:=c.text t (by omega);obtain ⟨R,U,rfl⟩:=c.len;have g:=K b;have i:=K u;have d:=K (m.trans r (λj G e=>(n j e).elim id (λe=>absurd G (by omega))));have f:H (∀j,(L x z y).ownBlock=S j->(L D l.length E).ownBlock=S j\/w.heap.size<=j):=K (λj e=>(s j e).elim (n j) (λe=>Y5 (Rn m.size e)));clear c m n b u r s
 go_wp2_with (first
  | (at_builtin;refine jA rfl _ _ 100 9 rfl _ (L x z y) (bs t) P rfl rfl g.out ?_)
  | fail)
 go_ret;exact ⟨_,rfl,by rw [q.out];exact i.out,d.out,f.out⟩
theorem tZ(t:QF)(w:QI)(c:t.length<=1073741824):Y8 Ys 271 #[T (bs t)] w λe b=>e=YX (I J ((8+t.length:Nat):Int))/\w=b:=by
 have a:=aj t;go_enter func271,ntmps271;go_wp2_with fail
 go_ret;exact ⟨by congr 1,rfl⟩
theorem PM(l:QF):po l<=4294967295:=by unfold po;omega
theorem LN(t:QF)(w:QI)(ht:t.length<=1048576):Y8 Ys 253 #[T (bs t)] w λe A=>e=YX (T (bs (bJ t)))/\Y6 w.heap.size w A:=by
 have R:=aj t;have E:=K (iy (L N 0 0) [] t.length 4 w (eQ.nil w) (by simp) (by omega) (by omega));have u:H (∀W:QI,Y8 Ys 95 #[T (bs t)] W λe A=>e=YX (I .u32 (po t))/\W=A):=K (λW=>zF (bs t) W (by unfold maxLen;omega));have o:=PM t;obtain ⟨q,f⟩:=QE (po t);rw [f] at u o;have v:H (bJ t=(aG 4 t.length++aG 4 q)++t):=K (by unfold bJ;rw [f,Sq]);clear f;go_enter func253,ntmps253;go_wp2_with fail
 refine E.out.mono ?_;rintro e B ⟨v1,rfl,l,g,G⟩;have m:([]++aG 4 t.length).length<=4:=by rw [Tk,aY];exact QR _
 rw [Tk] at l m;obtain ⟨d,O⟩:=QE (aG 4 t.length);rw [O] at l m v;obtain ⟨V,Y,rfl⟩:=l.len;have y:=K l;have C:Y6 w.heap.size w B:=⟨g.still.1,g.still.2.1,g.still.2.2,g.size,λk z=>g.block k z (λe=>by cases e)⟩;have j:=K C;have x:=K G;clear l g G C;go_wp2_with fail
 refine (u.out B).mono ?_;rintro e w2 ⟨rfl,rfl⟩;have i:=K (iy _ d q 4 B y.out (by omega) o (by omega));clear O E u;go_wp2_with fail
 refine i.out.mono ?_;rintro e U ⟨v3,rfl,p,h,P⟩;have n:(d++aG 4 q).length<=8:=by rw [RI,aY];omega
 obtain ⟨a,b⟩:=QE (d++aG 4 q);rw [b] at p n v;have M:=aj a;have Q:=p.string;obtain ⟨X,Z,rfl⟩:=p.len;have c:bs a++bs t=bs (a++t):=(aQ a t).symm;have r:=K c
 have D:Y6 w.heap.size w U:=by
  refine j.out.trans ⟨h.still.1,h.still.2.1,h.still.2.2,h.size,λk z=>h.block k (SA z j.out.size) (λe=>?_)⟩
  rcases x.out k e with e | e
  .cases e
  omega
 have s:=K D;clear p h P b D c i;go_wp2_with fail
 go_ret;exact ⟨by rw [v.out, <-r.out];rfl,s.out⟩
theorem Qb(a b c d:UInt8):stood [a,b,c,d]=if d=61 then (if c=61 then 1 else 2) else 3:=by
 have f:Lib.hasSuffix [a,b,c,d] [61,61]=(d == 61 && c == 61):=by
  simp only [Lib.hasSuffix,List.isSuffixOf,Ti,Tj,Tk,Tl,List.isPrefixOf,SC];rw [BEq.comm (a:=(61:UInt8)) (b:=d),BEq.comm (a:=(61:UInt8)) (b:=c)]
 have g:Lib.hasSuffix [a,b,c,d] [61]=(d == 61):=by
  simp only [Lib.hasSuffix,List.isSuffixOf,Ti,Tj,Tk,Tl,List.isPrefixOf,SC];rw [BEq.comm (a:=(61:UInt8)) (b:=d)]
 unfold stood;rw [f,g]
 by_cases e:d=61
 .by_cases h:c=61 <;> simp [e,h]
 simp [e]
theorem AP(s:QL)(a b c d:UInt8)(w:QI)(h:s.data.toList=[a,b,c,d]):Y8 Ys 284 #[T s] w (ee (GK a b c d) w):=by
 have j:s.size=4:=by rw [<-ag,h];rfl
 have v:(s.extract 0 2).data.toList=[a,b]:=by rw [Su,h];rfl
 have n:(s.extract 0 3).data.toList=[a,b,c]:=by rw [Su,h];rfl
 have l:(s.extract 0 4).data.toList=[a,b,c,d]:=by rw [Su,h];rfl
 have e:=Qb a b c d
 by_cases o:d=61
 .rw [if_pos o] at e
  by_cases x:c=61
  .rw [if_pos x] at e;have u:GK a b c d=g1 a b:=by unfold GK;rw [if_pos o,if_pos x]
   rw [u]
   cases f:gB a with
   | none=>
    have:g1 a b=N:=by unfold g1;rw [f]
    rw [this];exact wy s w j (by rw [h,e]) (by rw [v];simp [f])
   | some p=>
    cases g:gB b with
    | none=>
     have:g1 a b=N:=by unfold g1;rw [f,g]
     rw [this];exact wy s w j (by rw [h,e]) (by rw [v];simp [f,g])
    | some q=>
     have y:=(cR f).1;have z:=(cR g).1;refine EV s w j (by rw [h,e]) (by rw [v];simp [f,g]) (p * 262144+q * 4096) ?_ (by omega) _ ?_
     .rw [v];show kZ [a,b] 2=_;simp only [kZ];show 0+(gB a).getD 0 * 262144+(gB b).getD 0 * 4096=_;rw [f,g];simp
     unfold g1;rw [f,g];simp only
     by_cases k:q % 16=0
     .rw [if_pos k,if_pos (by omega),show (p * 262144+q * 4096) / 65536=p * 4+q / 16 by omega]
     rw [if_neg k,if_neg (by omega)]
  rw [if_neg x] at e;have u:GK a b c d=g2 a b c:=by unfold GK;rw [if_pos o,if_neg x]
  rw [u]
  cases f:gB a with
  | none=>
   have:g2 a b c=N:=by unfold g2;rw [f]
   rw [this];exact qm s w j (by rw [h,e]) (by rw [n];simp [f])
  | some p=>
   cases g:gB b with
   | none=>
    have:g2 a b c=N:=by unfold g2;rw [f,g]
    rw [this];exact qm s w j (by rw [h,e]) (by rw [n];simp [f,g])
   | some q=>
    cases i:gB c with
    | none=>
     have:g2 a b c=N:=by unfold g2;rw [f,g,i]
     rw [this];exact qm s w j (by rw [h,e]) (by rw [n];simp [f,g,i])
    | some r=>
     have y:=(cR f).1;have z:=(cR g).1;have A:=(cR i).1;refine EW s w j (by rw [h,e]) (by rw [n];simp [f,g,i]) (p * 262144+q * 4096+r * 64) ?_ (by omega) _ ?_
     .rw [n];show kZ [a,b,c] 3=_;simp only [kZ];show 0+(gB a).getD 0 * 262144+(gB b).getD 0 * 4096+(gB c).getD 0 * 64=_;rw [f,g,i];simp
     unfold g2;rw [f,g,i];simp only
     by_cases k:r % 4=0
     .rw [if_pos k,if_pos (by omega),show (p * 262144+q * 4096+r * 64) / 65536=p * 4+q / 16 by omega,ju ((p * 262144+q * 4096+r * 64) / 256) (ph (q % 16 * 16+r / 4)) (by rw [dL];omega)]
     rw [if_neg k,if_neg (by omega)]
 rw [if_neg o] at e;have u:GK a b c d=g3 a b c d:=by unfold GK;rw [if_neg o]
 rw [u]
 cases f:gB a with
 | none=>
  have:g3 a b c d=N:=by unfold g3;rw [f]
  rw [this];exact np s w j (by rw [h,e]) (by rw [l];simp [f])
 | some p=>
  cases g:gB b with
  | none=>
   have:g3 a b c d=N:=by unfold g3;rw [f,g]
   rw [this];exact np s w j (by rw [h,e]) (by rw [l];simp [f,g])
  | some q=>
   cases i:gB c with
   | none=>
    have:g3 a b c d=N:=by unfold g3;rw [f,g,i]
    rw [this];exact np s w j (by rw [h,e]) (by rw [l];simp [f,g,i])
   | some r=>
    cases m:gB d with
    | none=>
     have:g3 a b c d=N:=by unfold g3;rw [f,g,i,m]
     rw [this];exact np s w j (by rw [h,e]) (by rw [l];simp [f,g,i,m])
    | some t=>
     have y:=(cR f).1;have z:=(cR g).1;have A:=(cR i).1;have B:=(cR m).1;refine EX s w j (by rw [h,e]) (by rw [l];simp [f,g,i,m]) (p * 262144+q * 4096+r * 64+t) ?_ (by omega) _ ?_
     .rw [l];show kZ [a,b,c,d] 4=_;simp only [kZ];show 0+(gB a).getD 0 * 262144+(gB b).getD 0 * 4096+(gB c).getD 0 * 64+(gB d).getD 0 * 1=_;rw [f,g,i,m];simp
     unfold g3;rw [f,g,i,m];simp only;rw [show (p * 262144+q * 4096+r * 64+t) / 65536=p * 4+q / 16 by omega,ju ((p * 262144+q * 4096+r * 64+t) / 256) (ph (q % 16 * 16+r / 4)) (by rw [dL];omega),ju (p * 262144+q * 4096+r * 64+t) (ph (r % 4 * 64+t)) (by rw [dL];omega)]
theorem uP(B b:Nat)(bs:List QJ)(s:QL)(w:QI)(h:Lib.IsBuilderF 115 5 B b bs w)(a:bs.length+s.size<=140737488355328)(c:B<=w.heap.size):Y8 Ys 102 #[YV (S ⟨b,0,N⟩),T s] w λe d=>e=YX (YY #[I J s.size,.nilIface])/\(Lib.BuilderAtF 115 5 B b (YV (S ⟨b,0,N⟩)) (bs++Lib.strCells s) d/\Y6 B w d/\Lib.OthersKept 5 (S b) w d):=
 Any.Builder_WriteString_k {Tryz.lays159 with} Tryz.Builder_Extra_159 B b bs s w h a c
theorem qT(B b:Nat)(l:QF)(w:QI)(h:Lib.IsBuilderF 115 5 B b (Lib.byteCells l) w)(a:B<=w.heap.size):Y8 Ys 59 #[YV (S ⟨b,0,N⟩)] w λe c=>e=YX (T ⟨l.toArray⟩)/\(Lib.IsBuilderF 115 5 B b (Lib.byteCells l) c/\Y6 B w c/\Lib.OthersKept 5 (S b) w c):=
 Any.Builder_String_any_k Tryz.lays169 Tryz.Builder_Extra_169 B b l w h a
theorem pK{a e:Za}{B b:Nat}{p:QJ}{bs:List QJ}{W i:QI}(h:Lib.BuilderAtF a e B b p bs W)(c:Y6 W.heap.size W i):Lib.BuilderAtF a e B b p bs i:=by
 have f:=h.lt;obtain ⟨j,v,m,d,g⟩:=h;exact ⟨j,v,(c.block b f).trans m,d.kept (row:=N) ⟨c.os,c.tape,c.output,c.size,λk l _=>c.block k l⟩ (Classical.em _),g⟩
theorem uG{a e:Za}{B b:Nat}{bs:List QJ}{W c:QI}(h:Lib.IsBuilderF a e B b bs W)(d:Y6 W.heap.size W c):Lib.IsBuilderF a e B b bs c:=
 h.elim (λx=>Y4 (pK x d)) (λx=>Y5 (pK x d))
def la(o:Option QF)(w:QI)(e:Zb)(w':QI):Prop:=
 (match o with | some g=>e=YX (YY #[T ⟨g.toArray⟩,YW YT]) | none=>e=YX (YY #[T ⟨#[]⟩,YW F]))/\Y6 w.heap.size w w'
theorem la.yes{o:Option QF}{w:QI}{e:Zb}{a:QI}(g:QF)(h:o=S g)(b:e=YX (YY #[T ⟨g.toArray⟩,YW YT]))(c:Y6 w.heap.size w a):la o w e a:=by subst h;exact ⟨b,c⟩
theorem la.no{o:Option QF}{w:QI}{e:Zb}{a:QI}(h:o=N)(b:e=YX (YY #[T ⟨#[]⟩,YW F]))(c:Y6 w.heap.size w a):la o w e a:=by subst h;exact ⟨b,c⟩
def Pg(v:QJ):Nat:=match v with | .string t=>t.size | _=>0
def Oj(l:QF)(w:QI)(s:QJ)(w':QI):Prop:=
 ∃(t:QL) (acc:QF),s=T t/\t.size % 4=0/\acc.length+t.size<=l.length/\fC l=(fC t.data.toList).map (acc++·)/\Lib.IsBuilderF 115 5 w.heap.size w.heap.size (Lib.byteCells acc) w'/\Y6 w.heap.size w w'/\w.heap.size < w'.heap.size
theorem rf:∀l:QF,l.length % 4≠0->fC l=N
 | [],h=>absurd rfl h
 | [_],_=>rfl
 | [_,_],_=>rfl
 | [_,_,_],_=>rfl
 | a::b::c::d::r,h=>by
  have:=rf r (by simp at h;omega);rw [fC]
  split
  .rfl
  split
  .rfl
  rw [this]
theorem OC{a b c d:UInt8}{g:QF}(h:GK a b c d=S g):1<=g.length/\g.length<=3:=by
 unfold GK at h
 split at h
 .split at h
  .have:=(Pt h).2;omega
  have:=(Pu h).2;omega
 have:=(Pv h).2;omega
theorem uh(s:QL)(w:QI)(hs:s.size<=140737488355328):Y8 Ys 240 #[T s] w (la (fC s.data.toList) w):=by
 obtain ⟨O,U⟩:=QE (fC s.data.toList);rw [U];have Q:=K U;clear U
 cases hm:(((s.size:Int) % 4) != 0)
 case true=>
  have q:H (O=N):=by
   show _=_;rw [<-Q.out];refine rf _ ?_;have:¬(s.size:Int) % 4=0:=by simpa using hm
   rw [ag];omega
  go_enter func240,ntmps240;go_wp2
  go_ret2
  exact la.no q.out rfl (QQ _ _)
 have a0:(s.size:Int) % 4=0:=by simpa using hm
 have HM:H (s.size % 4=0):=by show s.size % 4=0;omega
 clear a0;go_enter func240,ntmps240;go_wp2
 go_loopw [0] (λt w'=>Oj s.data.toList w t w') (λt _=>Pg t)
 case atStart=>exact ⟨s,[],rfl,HM.out,by rw [ag];simp,by simp,Lib.IsBuilderF.of (Lib.fresh_isBuilder 115 5 w),(QQ _ _).alloc (QR _) _,by simp⟩
 case round=>
  obtain ⟨t,f,rfl,a5,C,l,hB,k,n⟩:=hrel;rw [ag] at C;rw [Q.out] at l;have P:=K l;have G:=K hB;clear l hB
  by_cases h0:t.size=0
  .have HE:H (O=S f):=by
    show _=_;rw [P.out]
    have:t.data.toList=[]:=by
     rw [<-TC,ag];exact h0
    rw [this];simp [fC]
   have W:=Vw n;go_wp2_with fail
   refine (qT _ _ f _ G.out W).mono ?_;rintro e w1 ⟨rfl,_,j,_⟩;go_wp2_with fail
   go_ret2
   exact la.yes f HE.out rfl (k.trans j)
  have h4:4<=t.size:=by omega
  obtain ⟨a,b,c,d,r,B⟩:∃a b c d r,t.data.toList=a::b::c::d::r:=by
   have v:4<=t.data.toList.length:=by rw [ag];exact h4
   match h:t.data.toList,v with
   | a::b::c::d::r,_=>exact ⟨a,b,c,d,r,rfl⟩
  have X:H ((t.extract 0 4).data.toList=[a,b,c,d]):=by
   show _=_;rw [Su,B];rfl
  have m:H ((t.extract 4 t.size).data.toList=r):=by
   show _=_;rw [Lib.extract_to_end,B];rfl
  have D:r.length+4=t.size:=by
   rw [<-ag t,B];rfl
  have p:H (O=(match GK a b c d with | none=>N | some g=>if g.length < 3/\r≠[] then N else match fC r with | none=>N | some y=>S (g++y):Option QF).map (f++·)):=by
   show _=_;rw [P.out,B];rfl
  clear B P;obtain ⟨gr,A⟩:=QE (GK a b c d);have z:=K A;clear A;have a1:(4:Int)<=(t.size:Int):=by omega
  go_wp2_with fail
  refine (AP (t.extract 0 4) a b c d _ X.out).mono ?_;rw [z.out];rintro e w1 ⟨E,j⟩
  cases gr with
  | none=>
   simp only at E;subst E;have q:H (O=N):=by show _=_;rw [p.out,z.out];rfl
   go_wp2_with fail
   go_ret2
   exact la.no q.out rfl (k.trans (j.mono (Vw n)))
  | some g=>
   simp only at E;subst E;have a3:=OC z.out;have Y:(⟨g.toArray⟩:QL).size=g.length:=by simp [ByteArray.size]
   by_cases i:g.length < 3/\r≠[]
   .have q:H (O=N):=by
     show _=_;rw [p.out,z.out];simp only;rw [if_pos i];rfl
    have a2:((g.length:Int) < 3):=by omega
    have a4:(0:Int) < (t.size:Int) - 4:=by
     have:1<=r.length:=by
      cases r with
      | nil=>exact absurd rfl i.2
      | cons _ _=>simp
     omega
    go_wp2_with fail
    go_ret2
    exact la.no q.out rfl (k.trans (j.mono (Vw n)))
   have q:H (O=(fC r).map ((f++g)++·)):=by
    show _=_;rw [p.out,z.out];simp only;rw [if_neg i]
    cases fC r with
    | none=>rfl
    | some y=>simp
   have u:(3:Int)<=(g.length:Int)\/((g.length:Int) < 3/\¬0 < t.size - 4):=by
    by_cases h3:3<=g.length
    .left;omega
    right
    refine ⟨by omega,?_⟩
    have:r=[]:=by
     cases r with
     | nil=>rfl
     | cons x y=>exact absurd ⟨by omega,by simp⟩ i
    rw [this] at D;simp at D;omega
   have M:=K (uG G.out j);have a6:wr.heap.size<=w1.heap.size:=j.size
   have Z:H ((Lib.byteCells f).length+(⟨g.toArray⟩:QL).size<=140737488355328):=by
    show _<=_;rw [Lib.byteCells_length,Y];omega
   have R:w.heap.size<=w1.heap.size:=by omega
   clear i G
   rcases u with h3 | ⟨h3,hz⟩
   all_goals
    go_wp2_with fail
    refine (uP _ _ (Lib.byteCells f) ⟨g.toArray⟩ _ M.out Z.out R).mono ?_;rintro e w2 ⟨rfl,V,o,_⟩;go_wp2_with fail
    refine ⟨⟨t.extract 4 t.size,f++g,rfl,?_,?_,?_,?_,?_,?_⟩,?_⟩
    .rw [<-ag,m.out];omega
    .rw [<-ag (t.extract 4 t.size),m.out,ag];simp;omega
    .rw [Q.out,m.out,q.out]
    .refine Y5 ?_;have:Lib.byteCells (f++g)=Lib.byteCells f++Lib.strCells ⟨g.toArray⟩:=by simp [Lib.byteCells,Lib.strCells]
     rw [this];exact V
    .exact (k.trans (j.mono (Vw n))).trans o
    .have:=o.size;omega
    show (t.extract 4 t.size).size < t.size;rw [<-ag,m.out];omega
theorem G7{w:QI}{g:Nat}(n:Nat):aC (λk=>k=g) w (w.freeze ⟨g,0,N⟩ n):=by
 obtain ⟨a,b,c⟩:(∀k,k≠g->(w.freeze ⟨g,0,N⟩ n).heap[k]? =w.heap[k]?)/\(w.freeze ⟨g,0,N⟩ n).heap.size=w.heap.size/\df w (w.freeze ⟨g,0,N⟩ n):=by
  unfold World.freeze
  split
  .exact ⟨λ_ _=>rfl,rfl,df.refl w⟩
  refine ⟨λk d=>?_,by simp,⟨rfl,rfl,rfl⟩⟩
  show (w.heap.modify g _)[k]? =_;rw [Array.getElem?_modify,if_neg (λe=>d e.symm)]
 exact ⟨by rw [b];exact QR _,λk _ f=>a k f,c⟩
theorem Gw(b g a:Nat)(d:Array QJ)(s:Nat×Nat)(p:QK)(l:QF)(w:QI)(h:l≠[])(t:w.heap[b]? =S (YU #[YV p,L (S ⟨g,0,N⟩) l.length a] 115 (0,0)))(u:w.heap[g]? =S (YU d 5 s))(q:l.length<=a)(f:a<=Y7)(m:d.size=a)(c:∀j x,l[j]? =S x->w.cell? ((⟨g,0,N⟩:Addr).add j)=S (I .u8 x.toNat)):Y8 Ys 59 #[YV (S ⟨b,0,N⟩)] w λe y=>e=YX (T (bs l))/\w.drew.freeze ⟨g,0,N⟩ l.length=y:=by
 have o:l.length≠0:=by simpa using h
 have z:w.drew.cell? ⟨b,1,N⟩=S (L (S ⟨g,0,N⟩) l.length a):=by
  have:w.drew.heap[b]? =S (YU #[YV p,L (S ⟨g,0,N⟩) l.length a] 115 (0,0)):=t;rw [Q3 this];rfl
 have i:(Builtin.unsafeSliceData_ #[100] (Tryz.lays169_ren.t 127) #[L (S ⟨g,0,N⟩) l.length a]).run Ys w.drew= .ok (YV (S ⟨g,0,N⟩)) w.drew:=
  Lib.run_unsafeSliceData_row _ _ _ _ _ _ (by omega)
 have k:(Builtin.unsafeString_ #[(Tryz.lays169_ren.t 127),3] 9 #[YV (S ⟨g,0,N⟩),I J l.length]).run Ys w.drew= .ok (T ⟨l.toArray⟩) (w.drew.freeze ⟨g,0,N⟩ l.length):=by
  refine Lib.run_unsafeString_row w.drew _ 3 9 5 Tryz.lays169.t127 Tryz.Builder_Extra_169.cellsByte g d.size (by have n:w.drew.heap[g]? =S (YU d 5 s):=u;simp [World.shape?,n]) l h (by omega) (by unfold maxLen at f;omega) ?_;exact λj x v=>c j x v
 simp only [Tryz.lays169_ren] at i k;clear t u q f m c h o;have r:=Tryz.lays169.mixed;go_enter func59,ntmps59;go_wp2_with fail
 go_region_o
 all_goals (go_wp2;go_ret;exact ⟨rfl,rfl⟩)
theorem Jb(b:Nat)(p:QK)(w:QI)(f:w.heap[b]? =S (YU #[YV p,L N 0 0] 115 (0,0))):Y8 Ys 59 #[YV (S ⟨b,0,N⟩)] w λe g=>e=YX (T (bs []))/\w.drew=g:=by
 have c:=UE Tryz.lays169 Tryz.Builder_Extra_169
 have h:w.drew.cell? ⟨b,1,N⟩=S (L N 0 0):=by
  have:w.drew.heap[b]? =S (YU #[YV p,L N 0 0] 115 (0,0)):=f;rw [Q3 this];rfl
 have a:(Builtin.unsafeSliceData_ #[100] (Tryz.lays169_ren.t 127) #[L N 0 0]).run Ys w.drew= .ok (YV N) w.drew:=rfl;simp only [Tryz.lays169_ren] at a c;clear f;have d:=Tryz.lays169.mixed;go_enter func59,ntmps59;go_wp2_with fail
 go_region_o
 all_goals (go_wp2;go_ret;exact ⟨rfl,rfl⟩)
theorem Gv(b g a:Nat)(p:QK)(w:QI)(c:a≠0)(i:w.heap[b]? =S (YU #[YV p,L (S ⟨g,0,N⟩) 0 a] 115 (0,0))):Y8 Ys 59 #[YV (S ⟨b,0,N⟩)] w λe j=>e=YX (T (bs []))/\w.drew=j:=by
 have f:=UE Tryz.lays169 Tryz.Builder_Extra_169
 have k:w.drew.cell? ⟨b,1,N⟩=S (L (S ⟨g,0,N⟩) 0 a):=by
  have:w.drew.heap[b]? =S (YU #[YV p,L (S ⟨g,0,N⟩) 0 a] 115 (0,0)):=i;rw [Q3 this];rfl
 have d:(Builtin.unsafeSliceData_ #[100] (Tryz.lays169_ren.t 127) #[L (S ⟨g,0,N⟩) 0 a]).run Ys w.drew= .ok (YV (S ⟨g,0,N⟩)) w.drew:=
  Lib.run_unsafeSliceData_row _ _ _ _ _ _ c
 simp only [Tryz.lays169_ren] at d f;clear i c;have h:=Tryz.lays169.mixed;go_enter func59,ntmps59;go_wp2_with fail
 go_region_o
 all_goals (go_wp2;go_ret;exact ⟨rfl,rfl⟩)
theorem Bi(b g:Nat)(p:QK)(a:Array QJ)(k:Nat×Nat)(w:QI)(c:w.heap[b]? =S (YU #[YV p,L (S ⟨g,0,N⟩) 0 0] 115 (0,0)))(l:w.heap[g]? =S (YU a 5 k)):Y8 Ys 59 #[YV (S ⟨b,0,N⟩)] w λe q=>e=YX (T (bs []))/\Y6 w.heap.size w q:=by
 have f:=UE Tryz.lays169 Tryz.Builder_Extra_169;have i:=aq c
 have n:w.drew.cell? ⟨b,1,N⟩=S (L (S ⟨g,0,N⟩) 0 0):=by
  have:w.drew.heap[b]? =S (YU #[YV p,L (S ⟨g,0,N⟩) 0 0] 115 (0,0)):=c;rw [Q3 this];rfl
 have d:(Builtin.unsafeSliceData_ #[100] (Tryz.lays169_ren.t 127) #[L (S ⟨g,0,N⟩) 0 0]).run Ys w.drew= .ok (YV (S ⟨w.drew.heap.size,0,N⟩)) (w.drew.alloc (.view ⟨g,0,N⟩ 5)):=
  Lib.run_unsafeSliceData_zero w.drew _ _ 5 Tryz.lays169.t127 ⟨g,0,N⟩ 0 (5,a.size) (by have h:w.drew.heap[g]? =S (YU a 5 k):=l;simp [World.shape?,h])
 have o:(w.drew.alloc (.view ⟨g,0,N⟩ 5)).cell? ⟨b,1,N⟩=S (L (S ⟨g,0,N⟩) 0 0):=by
  have:(w.drew.alloc (.view ⟨g,0,N⟩ 5)).heap[b]? =_:=(Lib.alloc_old w.drew _ b i).trans c;rw [Q3 this];rfl
 have s:(w.alloc (.view ⟨g,0,N⟩ 5)).drew.cell? ⟨b,1,N⟩=S (L (S ⟨g,0,N⟩) 0 0):=o;have r:w.cell? ⟨b,1,N⟩=S (L (S ⟨g,0,N⟩) 0 0):=n;have m:H (Y6 w.heap.size w (w.drew.alloc (.view ⟨g,0,N⟩ 5))):=K ((UF (QQ _ w)).alloc (QR _) _);simp only [Tryz.lays169_ren] at d f;clear c l;have j:=Tryz.lays169.mixed;go_enter func59,ntmps59;go_wp2_with fail
 go_region_o
 all_goals (go_wp2;go_ret;exact ⟨rfl,m.out⟩)
theorem nP(d b:Nat)(v:QJ)(a:QF)(w:QI)(h:j8 d w b v a):Y8 Ys 59 #[YV (S ⟨b,0,N⟩)] w λe i=>e=YX (T (bs a))/\aC (λk=>v.ownBlock=S k) w i:=by
 obtain ⟨p,_,l⟩:=h.xp
 rcases h.row.2 with ⟨e,D⟩ | ⟨g,c,f,r,e,A,u,B,o,m,n,q⟩
 .obtain rfl:a=[]:=TC.1 D;subst e;refine (Jb b p w l).mono ?_;rintro e i ⟨rfl,rfl⟩;exact ⟨rfl,aC.below (UF (QQ _ w))⟩
 subst e
 by_cases s:a=[]
 .subst s
  by_cases t:c=0
  .subst t;refine (Bi b g p f r w l u).mono ?_;rintro e i ⟨rfl,z⟩;exact ⟨rfl,aC.below z⟩
  refine (Gv b g c p w t l).mono ?_;rintro e i ⟨rfl,rfl⟩;exact ⟨rfl,aC.below (UF (QQ _ w))⟩
 refine (Gw b g c f r p a w s l u o m (by simpa using n) ?_).mono ?_
 .intro j x C;have:=h.row.cells (g:=g) rfl j (I .u8 x.toNat) (by simp [Lib.byteCells,C]);exact this
 rintro e i ⟨rfl,rfl⟩;refine ⟨rfl,?_⟩;have y:aC (λk=>k=g) w w.drew:=aC.below (UF (QQ _ w));exact (y.trans (G7 a.length) (λ_ _ e=>e)).mono (λk _ e=>by rw [e];rfl)
structure bf where
 addr:Int
 came:QF
 closed:Bool
 xj:Bool
 known:Bool
 begun:Bool
 xk:QF
 xd:List QF
 inside:Bool
 lines:List QF
 bad:Bool
def bC(r:bf)(vT vL:QJ):Array QJ:=#[I J r.addr,T (bs r.came),YW r.closed,YW r.xj,YW r.known,YW r.begun,T (bs r.xk),vT,YW r.inside,vL,YW r.bad]
structure bB(w:QI)(cb:Nat)(vT vL:QJ)(r:bf):Prop where
 xp:w.heap[cb]? =S (YU (bC r vT vL) 139 (0,0))
 xd:w.ownsRow 0 9 1 vT r.xd.length (ah r.xd)
 lines:w.ownsRow 0 9 1 vL r.lines.length (ah r.lines)
 apart:vT.ownBlock=N\/vT.ownBlock≠vL.ownBlock
structure je(w:QI)(p:Nat)(c:bF)(vD vN vU vW:QJ):Prop where
 xp:∃A:Array QJ,w.heap[p]? =S (YU A 133 (0,0))/\A.size=15/\A.toList.take 9=[T c.host,vD,vN,vU,I J c.most,I J c.size,vW,I J c.xm,I J c.room]
 rows:dD w c vD vN vU vW
 may:dk c=YT
section
variable {w:QI} {cb p:Nat} {vT vL vD vN vU vW:QJ} {r:bf} {c:bF}
theorem bB.cell(h:bB w cb vT vL r)(j:Nat):w.cell? ⟨cb,j,N⟩=(bC r vT vL)[j]? :=by rw [Q3 h.xp]
theorem bB.frozen(h:bB w cb vT vL r)(j:Nat):w.frozen? ⟨cb,j,N⟩=F:=RJ h.xp j
theorem je.cell(h:je w p c vD vN vU vW)(j:Nat)(b:j < 9):w.cell? ⟨p,j,N⟩=[T c.host,vD,vN,vU,I J c.most,I J c.size,vW,I J c.xm,I J c.room][j]? :=by
 obtain ⟨A,a,_,d⟩:=h.xp;rw [Q3 a, <-Sl, <-Sk b,d]
end
theorem Nb{c:bF}(h:dk c=YT):∀x∈c.xe,0<=x.2/\x.2<=32:=by
 unfold dk lN at h;simp only [Rk] at h;obtain ⟨⟨⟨⟨⟨⟨⟨⟨_,_⟩,⟨_,a⟩⟩,_⟩,_⟩,_⟩,_⟩,_⟩,_⟩:=h;intro x b;have:=Rb.1 a x b;unfold jK aZ at this;simp only [Rk,decide_eq_true_eq] at this;exact this.1.1
def rC(c:bF)(r:bf)(dom:QF):Bool:=c.xf.any (λd=>Lib.toLowerA d.data.toList == dom) || c.xe.any (gd r.addr) || r.known
theorem IW(p cb:Nat)(c:bF)(vD vN vU vW vT vL:QJ)(r:bf)(g:QF)(w:QI)(h:je w p c vD vN vU vW)(hc:bB w cb vT vL r)(_:0<=r.addr):Y8 Ys 252 #[YV (S ⟨p,0,N⟩),YV (S ⟨cb,0,N⟩),T (bs g)] w λe z=>e=YX (YW (rC c r g))/\Y6 w.heap.size w z:=by
 have c1:w.cell? ⟨p,1,N⟩=S vD:=h.cell 1 (by decide);have c2:w.cell? ⟨p,2,N⟩=S vN:=h.cell 2 (by decide);have d0:w.cell? ⟨cb,0,N⟩=S (I J r.addr):=hc.cell 0;have d4:w.cell? ⟨cb,4,N⟩=S (YW r.known):=hc.cell 4;obtain ⟨aD,cD,rfl,hD⟩:=h.rows.1.one;obtain ⟨aN,cN,rfl,hN⟩:=h.rows.2.1.shape;have HD:=K hD;have HN:=K hN;have HS:=K (gI h.may);have Y:=K (Nb h.may);have b1:=(gI h.may).xf;have b2:=(gI h.may).xe;have Q:p < w.heap.size:=au c1;have v:cb < w.heap.size:=au d0;clear h hc hD hN;go_enter func252,ntmps252;go_wp2_with fail
 go_loopw [7] (λy z=>∃k:Nat,k<=c.xf.length/\y=I J (k:Int)/\H ((c.xf.take k).any (λd=>Lib.toLowerA d.data.toList == g)=F)/\H (Y6 w.heap.size w z)) (λy _=>c.xf.length - (Y9 y).toNat)
 case atStart=>exact ⟨0,QS _,rfl,K rfl,K (QQ _ _)⟩
 case round=>
  obtain ⟨k,hk,rfl,l,j⟩:=hrel;have a1:wr.cell? ⟨p,1,N⟩=S (L aD c.xf.length cD):=(j.out.cell (by exact Q)).trans c1
  by_cases f:k < c.xf.length
  .have P:(k:Int) < (c.xf.length:Int):=by omega
   obtain ⟨b,q,rfl,a3,M⟩:=HD.out k f;obtain ⟨d,D⟩:=QE (c.xf[k]);have a4:=HS.out.yK c.xf[k] (QU f);rw [D] at a4
   have a5:wr.cell? ⟨b,q+k,N⟩=S (T d):=by
    refine (j.out.cell (by exact a3)).trans ?_;rw [M, <-D];simp [bA,f]
   have C:H ((c.xf.take (k+1)).any (λd=>Lib.toLowerA d.data.toList == g)=(Lib.toLowerA d.data.toList == g)):=K (by rw [QV f,QW,l.out,D];simp)
   have s:H ((Lib.toLowerA d.data.toList == g)=YT->rC c r g=YT):=K (λe=>by
    unfold rC;rw [Ty,Ty]
    exact Y4 (Y4 (QX.2 ⟨d,by rw [<-D];exact QU f,e⟩)))
   have u:=Cn d wr (by unfold maxLen;omega);obtain ⟨X,eX⟩:=QE (Lib.toLowerA d.data.toList);rw [eX] at u C s;have a0:H (Y8 Ys 301 #[T d] wr λe z=>e=YX (T (bs X))/\Y6 wr.heap.size wr z):=K u;clear u eX D M;go_wp2_with fail
   refine a0.out.mono ?_;rintro e w2 ⟨rfl,E⟩;have B:=K (j.out.trans (E.mono j.out.size));clear E;go_wp2_with fail
   .rename_i R
    have hX:X=g:=by rw [beq_iff_eq,ByteArray.toList_eq,ByteArray.toList_eq,ao,ao] at R;exact R
    go_ret;exact ⟨by rw [s.out (by rw [hX];simp)];rfl,B.out⟩
   rename_i R
   have hX:¬X=g:=by rw [beq_eq_false_iff_ne,ByteArray.toList_eq,ByteArray.toList_eq,ao,ao] at R;exact R
   exact ⟨⟨k+1,by omega,by go_num,K (by rw [C.out];simp [hX]),B⟩,by simp [Y9];omega⟩
  have t:¬(k:Int) < (c.xf.length:Int):=by omega
  have V:H (c.xf.any (λd=>Lib.toLowerA d.data.toList == g)=F):=K (by
   have:=l.out;rw [show k=c.xf.length by omega,QZ] at this
   exact this)
  go_wp2_with fail
  go_loopw [8,9] (λy _ z=>∃k:Nat,k<=c.xe.length/\y=I J (k:Int)/\H ((c.xe.take k).any (gd r.addr)=F)/\H (Y6 w.heap.size w z)) (λy _ _=>c.xe.length - (Y9 y).toNat)
  case atStart=>exact ⟨0,QS _,rfl,K rfl,j⟩
  case round=>
   clear j l a1 t;obtain ⟨k,hk,rfl,l,j⟩:=hrel;have a8:wr.cell? ⟨p,2,N⟩=S (L aN c.xe.length cN):=(j.out.cell (by exact Q)).trans c2;have a2:wr.cell? ⟨cb,0,N⟩=S (I J r.addr):=(j.out.cell (by exact v)).trans d0;have b0:wr.cell? ⟨cb,4,N⟩=S (YW r.known):=(j.out.cell (by exact v)).trans d4
   by_cases f:k < c.xe.length
   .have P:(k:Int) < (c.xe.length:Int):=by omega
    obtain ⟨b,q,rfl,G,i⟩:=HN.out k 0 f (by omega);obtain ⟨b',a7,eb,_,a⟩:=HN.out k 1 f (by omega);injection eb with eb;injection eb with e1 e2 _;subst e1 e2;rw [QT,qy c.xe k f] at i;rw [nF c.xe k f] at a;have U:=Y.out c.xe[k] (QU f);have HT:H ((c.xe.take (k+1)).any (gd r.addr)=gd r.addr c.xe[k]):=K (by rw [QV f,QW,l.out];simp)
    have HA:H (gd r.addr c.xe[k]=YT->rC c r g=YT):=K (λe=>by
     unfold rC;rw [Ty,Ty]
     exact Y4 (Y5 (QX.2 ⟨_,QU f,e⟩)))
    obtain ⟨x,ex⟩:=QE (c.xe[k]);rw [ex] at i a U HT HA;obtain ⟨A,n⟩:=x;simp only at i a U;have n0:wr.cell? ⟨b,q+k * 2,N⟩=S (I J A):=(j.out.cell (by exact G)).trans i;have n1:wr.cell? ⟨b,q+k * 2+1,N⟩=S (I J n):=(j.out.cell (by exact G)).trans a;have b4:IntKind.i64.wrap (32 - n)=32 - n:=by rw [QY];omega
    have b3:¬(32 - n < 0):=by omega
    have a6:(0:Int)<=32 - n:=by omega
    clear ex i a;have O:cb < wr.heap.size:=SA v j.out.size;have a9:∀o:Obj,(wr.alloc o).cell? ⟨cb,0,N⟩=S (I J r.addr):=λo=>(((QQ _ wr).alloc (QR _) o).cell (by exact O)).trans a2;go_wp2_with fail
    go_quiet (fail)
    have B9:=K ((j.out.alloc j.out.size (YU #[I J A,I J n] 96)).trans (an nq _ _))
    by_cases m:r.addr / 2 ^ (32 - n).toNat=A / 2 ^ (32 - n).toNat
    .have hb:(r.addr / 2 ^ (32 - n).toNat == A / 2 ^ (32 - n).toNat)=YT:=by rw [beq_iff_eq];exact m
     have Z:=K (HA.out (by unfold gd;simpa using m));clear m;go_wp2_with fail
     go_ret;exact ⟨by rw [Z.out];rfl,B9.out⟩
    have hb:(r.addr / 2 ^ (32 - n).toNat == A / 2 ^ (32 - n).toNat)=F:=by rw [beq_eq_false_iff_ne];exact m
    have W:=K (HT.out.trans (show gd r.addr (A,n)=F by unfold gd;simpa using m));clear m;go_wp2_with fail
    exact ⟨⟨k+1,by omega,by go_num,W,B9⟩,by simp [Y9];omega⟩
   have t:¬(k:Int) < (c.xe.length:Int):=by omega
   have HR:H (rC c r g=r.known):=K (by
    have:=l.out;rw [show k=c.xe.length by omega,QZ] at this
    unfold rC;rw [V.out,this]
    rfl)
   go_wp2_with fail
   go_ret;rw [HR.out];exact ⟨rfl,j.out⟩
end Go.Proofs.YtponhohdpophlaaGreatDoor
