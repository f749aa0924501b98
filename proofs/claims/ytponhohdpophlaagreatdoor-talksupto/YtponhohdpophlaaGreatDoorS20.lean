import Derived.Test.YtponhohdpophlaaGreatDoorS17
import Derived.Test.YtponhohdpophlaaGreatDoorS15
namespace Go.Proofs.YtponhohdpophlaaGreatDoor
set_option maxHeartbeats 8000000
set_option maxRecDepth 1000000
open Go renaming heap_setCell_same->Ro,Calls->Y8
open Go.Ending renaming returned->YX
open Go.IntKind renaming i64->J,wrap_i64->QY
open Go.Lib renaming cell_of_heap->Q3,frozen_of_heap->RJ
open Go.Obj renaming cells->YU
open Go.RowKit.Below renaming refl->QQ
open Go.Value renaming int->I,slice->L,string->T,pointer->YV,bool->YW,tuple->YY
open _root_.Nat renaming le_refl->QR,le_trans->Rn
open _root_.Option renaming none->N,some->S
open _root_.Or renaming inl->Y4,inr->Y5
open Go.Proofs.Tryz
open Go.RowKit
def jf(w:QI)(pb mb:Nat)(q:Nat->Nat)(S:aa)(k:Nat):Prop:=
 k=pb\/k=mb\/∃i∈S.live,k=q i\/∃C z,w.heap[q i]? =some (YU C 183 z)/\(C.getD 2 undef).ownBlock=some k
theorem jf.xo{w f:QI}{d c:Nat}{q:Nat->Nat}{a:aa}(h:∀i∈a.live,f.heap[q i]? =w.heap[q i]?){k:Nat}(l:jf f d c q a k):jf w d c q a k:=by
 rcases l with e | e | ⟨i,b,e | ⟨C,z,g,j⟩⟩
 .exact Y4 e
 .exact Y5 (Y4 e)
 .exact Y5 (Y5 ⟨i,b,Y4 e⟩)
 exact Y5 (Y5 ⟨i,b,Y5 ⟨C,z,by rw [<-h i b];exact g,j⟩⟩)
theorem CH{o l g:Nat}{q:Nat->Nat}{O:QJ}{f:aa}{w u n s:QI}(E:bt o w l g q O f)(P:Below w.heap.size w u)(h:bt o u l g q O f){m:aX}{Q:Nat}{v:QJ}{x:Int×Int}(D:aA l u n)(_:n.heap[l]? =S (YU #[O,I J m.time,I J ((f.items.length:Int)+1),.map (S g)] 102 (0,0)))
  (R:Below n.heap.size n s) (hQ:n.heap.size<=Q) (B:gf s Q m.time m.xk v m.body x) (Y:s.ownsRow n.heap.size 218 2 v m.xd.length (cI (mV m.xd (List.replicate m.xd.length false)))) (Z:1<=m.xd.length):
  aC (λk=>k=l\/k=g) w (ChangeMaps.setBlock s g (.map (dY (λi=>if i=f.items.length then Q else q i) (f.live++[f.items.length])) (f.items.length+1)))/\∀k,jf (ChangeMaps.setBlock s g (.map (dY (λi=>if i=f.items.length then Q else q i) (f.live++[f.items.length])) (f.items.length+1))) l g (λi=>if i=f.items.length then Q else q i) (f.plus m) k->jf w l g q f k\/w.heap.size<=k:=by
 have y:n.heap[g]? =S (.map (dY q f.live) f.items.length):=bm D h.map (λe=>by have:=h.map;unfold iu at this;rw [e,h.xx] at this;simp at this);have r:s.heap[g]? =S (.map (dY q f.live) f.items.length):=ae R y;have U:=jo r (.map (dY (λi=>if i=f.items.length then Q else q i) (f.live++[f.items.length])) (f.items.length+1));have W:n.heap.size=u.heap.size:=D.1;have V:=P.size
 have d:aC (λk=>k=l\/k=g) w (ChangeMaps.setBlock s g (.map (dY (λi=>if i=f.items.length then Q else q i) (f.live++[f.items.length])) (f.items.length+1))):=
  (((aC.below P:aC (λk=>k=l\/k=g) w u).trans (aC.same D) (λ_ _ e=>Y4 e)).trans (aC.below R:aC (λ_=>False) _ _) (λk _ e=>e.elim)).trans (aC.same U) (λ_ _ e=>Y5 e)
 refine ⟨d,λk t=>?_⟩
 rcases t with e | e | ⟨i,p,t⟩
 .exact Y4 (Y4 e)
 .exact Y4 (Y5 (Y4 e))
 rw [pB Z] at p;simp only [List.mem_append,List.mem_singleton] at p
 rcases p with p | rfl
 .have M:i≠f.items.length:=by have:=dR p;omega
  obtain ⟨a,v',x',b,c⟩:=E.xu i p
  have X:=d.some_ b (λe=>by
   unfold gf at b
   rcases e with e | e
   .rw [e,E.xx] at b;simp at b
   have:=E.map;unfold iu at this;rw [e,this] at b;simp at b)
  simp only [if_neg M] at t
  rcases t with e | ⟨C,z,j,A⟩
  .exact Y4 (Y5 (Y5 ⟨i,p,Y4 e⟩))
  refine Y4 (Y5 (Y5 ⟨i,p,Y5 ⟨C,z,?_,A⟩⟩));rw [X] at j;rw [<-j];exact b
 simp only [if_true] at t
 right
 rcases t with e | ⟨C,z,j,A⟩
 .omega
 have G:=bm U B (λe=>by unfold gf at B;rw [e,r] at B;simp at B);rw [G] at j;injection j with j;injection j with j _ _;rw [<-j] at A;have:=Y.lt k A;omega
theorem CG(f b j:Nat)(q:Nat->Nat)(A:QJ)(a:aa)(m:aX)(v:QJ)(w:QI)(h:bt f w b j q A a)(B:Nat)(hv:w.ownsRow B 9 1 v m.xd.length (ah m.xd))(hz:dJ m)(y:m.id=a.items.length+1)(ht:1<=m.xd.length)(hn:a.items.length < 4294967295):Y8 prog 154 #[YV (S ⟨b,0,N⟩),.agg (bh m v)] w λe w'=>e=YX (YY #[])/\∃q',bt f w' b j q' A (a.plus m)/\aC (λk=>k=b\/k=j) w w'/\∀k,jf w' b j q' (a.plus m) k->jf w b j q a k\/w.heap.size<=k:=by
 have M:=K h;have HV:=K hv;have HZ:=K hz;have d:∀o:Obj,(w.alloc o).heap[b]? =S (YU #[A,I J a.time,I J a.items.length,.map (S j)] 102 (0,0)):=λo=>ae ((QQ _ w).alloc (QR _) o) h.xx;have c1:∀o:Obj,(w.alloc o).cell? ⟨b,1,N⟩=S (I J a.time):=λo=>Q3 (d o) _;have c2:∀o:Obj,(w.alloc o).cell? ⟨b,2,N⟩=S (I J a.items.length):=λo=>Q3 (d o) _;have c3:∀o:Obj,(w.alloc o).cell? ⟨b,3,N⟩=S (.map (S j)):=λo=>Q3 (d o) _;have f1:∀o:Obj,(w.alloc o).frozen? ⟨b,1,N⟩=false:=λo=>RJ (d o) 1;have f2:∀o:Obj,(w.alloc o).frozen? ⟨b,2,N⟩=false:=λo=>RJ (d o) 2;have a0:=K d;obtain ⟨s,hs⟩:=QE w.heap.size;have X:b≠s:=by have:=h.yb;omega
 have R:=K hs;unfold bh;have x:=K y;clear h hv hz d hs y;go_enter func154,ntmps154;go_wp2_with fail
 obtain ⟨c,n⟩:=QE ((((w.alloc (YU #[I J m.id,I J m.time,T (bs m.xk),v,T (bs m.body)] 91)).setCell ⟨b,2,N⟩ (I J m.id)).setCell ⟨b,1,N⟩ (I J m.time)));rw [n];obtain ⟨E,i⟩:=QE (w.alloc (YU #[I J m.id,I J m.time,T (bs m.xk),v,T (bs m.body)] 91));have C:=QG i;have G:bt f E b j q A a:=M.out.xo C;have X0:=QH i;have D:aA b E c:=by rw [<-n,i];exact ((aA.refl b E).setCell _).setCell _
 have V:c.heap[b]? =S (YU #[A,I J m.time,I J ((a.items.length:Int)+1),.map (S j)] 102 (0,0)):=by
  rw [<-n,i];have:=Ro _ b 1 _ _ (I J m.time) (Ro E b 2 _ _ (I J m.id) G.xx);refine Eq.trans this ?_;rw [x.out];rfl
 have t:c.heap[w.heap.size]? =S (YU #[I J m.id,I J m.time,T (bs m.xk),v,T (bs m.body)] 91 (0,0)):=bm D X0 (by rw [R.out];exact λe=>X e.symm);have d3:c.drew.cell? ⟨b,3,N⟩=S (.map (S j)):=by show c.cell? _=_;rw [Q3 V];rfl
 have e0:c.drew.cell? ⟨w.heap.size,0,N⟩=S (I J m.id):=by show c.cell? _=_;rw [Q3 t];rfl
 have e1:c.drew.cell? ⟨w.heap.size,1,N⟩=S (I J m.time):=by show c.cell? _=_;rw [Q3 t];rfl
 have e2:c.drew.cell? ⟨w.heap.size,2,N⟩=S (T (bs m.xk)):=by show c.cell? _=_;rw [Q3 t];rfl
 have e3:c.drew.cell? ⟨w.heap.size,3,N⟩=S v:=by show c.cell? _=_;rw [Q3 t];rfl
 have e4:c.drew.cell? ⟨w.heap.size,4,N⟩=S (T (bs m.body)):=by show c.cell? _=_;rw [Q3 t];rfl
 have z:bg c.drew v m.xd.length 1 (ah m.xd):=bq (aB HV.out λg a1 e _=>bm (D.drew) (ae C e) (λe'=>by rw [e',M.out.xx] at e;simp at e));have P:=K (tR m v c.drew z HZ.out);have l:=K (show c.drew.heap[b]? =_ from V);have r:=K D.drew;have p:=K G;have U:=K (show c.drew.heap[w.heap.size]? =_ from t);have O:=K C;clear c1 c2 c3 f1 f2 n i V D G t X0 C z
 go_region_law (first
  | (go_simp;go_at_call 218;refine P.out.mono ?_;rintro e w2 ⟨Q,g,rfl,W,Y,Z,u⟩;have a2:w2.cell? ⟨b,3,N⟩=S (.map (S j)):=(Q3 (ae u l.out) _);have a3:w2.cell? ⟨w.heap.size,0,N⟩=S (I J m.id):=(Q3 (ae u U.out) _);have a4:=Jp (Q:=Q) p.out r.out l.out u x.out hn;have HR:=K (p.out.added r.out l.out u Y W Z ht);have HL:=K (CH M.out O.out p.out r.out l.out u Y W Z ht);clear W Y Z u))
 all_goals
  refine bodyPost_end (results_none rfl _ _ _) rfl ?_;exact ⟨rfl,_,HR.out,HL.out.1,HL.out.2⟩
def Jm(base pb mb:Nat)(q:Nat->Nat)(vr:QJ)(S:aa)(m:aX)(w:QI)(e:Ending)(w':QI):Prop:=
 e=YX (YW true)/\∃q',bt base w' pb mb q' vr (S.plus m)/\aC (λk=>k=pb\/k=mb) w w'/\∀k,jf w' pb mb q' (S.plus m) k->jf w pb mb q S k\/w.heap.size<=k
theorem fp{c e d:Nat}{q:Nat->Nat}{m:QJ}{a:aa}{w f:QI}(h:bt c w e d q m a)(g:Below w.heap.size w f){k:Nat}(l:jf f e d q a k):jf w e d q a k:=
 jf.xo (λi j=>g.block _ (by obtain ⟨_,_,_,b,_⟩:=h.xu i j;exact aq b)) l
theorem zZ(b d l:Nat)(q:Nat->Nat)(n:QJ)(a:aa)(m:aX)(v:QJ)(w:QI)(h:bt b w d l q n a)(B:Nat)(y:w.ownsRow B 9 1 v m.xd.length (ah m.xd))(U:dJ m)(R:1<=m.xd.length)(Q:a.items.length < 4294967295)(t:m.id=a.items.length+1)(O:a.time<=m.time):Y8 prog 97 #[YV (S ⟨d,0,N⟩),.agg (bh m v)] w (Jm b d l q n a m w):=by
 obtain ⟨j,c⟩:=QE (w.alloc (YU #[I J m.id,I J m.time,T (bs m.xk),v,T (bs m.body)] 91));have i:=QG c;have f:bt b j d l q n a:=h.xo i;have x:=QH c;have W:j.cell? ⟨d,1,N⟩=S (I J a.time):=Q3 f.xx _;have X:j.cell? ⟨d,2,N⟩=S (I J a.items.length):=Q3 f.xx _;obtain ⟨Y,Z,e2,e3,e4⟩:=QO x;have C:=K h;have o:=K f;have p:=K i;have r:=K c;have D:=K (aB y λg s e _=>ae i e);have E:=K U;unfold bh;have hw:IntKind.i64.wrap ((a.items.length:Int)+1)=(a.items.length:Int)+1:=by rw [QY];omega
 have t1:((m.id:Int) != (a.items.length:Int)+1)=false:=by rw [t];simp
 have t2:¬m.time < a.time:=by omega
 have A:=K t;clear f x i h c y t O;go_enter func97,ntmps97;go_wp2_with fail
 rw [r.out];go_quiet (fail)
 go_wp2_with fail
 refine (CG b d l q n a m v _ (o.out.drewN _) B (aB D.out λg s e _=>ae (an _ _ _) e) E.out A.out R Q).mono ?_;rintro e w2 ⟨rfl,V,z,G,M⟩;go_wp2_with fail
 go_ret;have u:Below w.heap.size w (j.drewN nq):=p.out.trans (an _ _ _);exact ⟨rfl,V,z,(aC.below u:aC _ _ _).trans G (λk _ e=>e),λk P=>(M k P).imp (λe=>fp C.out u e) (λe=>Rn u.size e)⟩
theorem vG(b s y:Nat)(q:Nat->Nat)(z:QJ)(a:aa)(l:QF)(m:aX)(n:Int)(w:QI)(h:bt b w s y q z a)(hl:l.length<=1048576)(E:w.cell? ⟨0,0,N⟩=S (I J n))(hn:a.items.length < 4294967295)(p:bP l=S m)(C:m.id=a.items.length+1)(D:a.time<=m.time):Y8 prog 54 #[YV (S ⟨s,0,N⟩),T (bs l)] w (Jm b s y q z a m w):=by
 have B:=K h;have R:=K (rP l n w hl E);have f:=K p;have P:=K C;have Q:=K D;clear h E p C D;go_enter func54,ntmps54;go_wp2_with fail
 refine R.out.mono ?_;rintro e w1 ⟨u,j⟩;have M:=K (B.out.xo j);have A:=K j;clear j
 rcases u with ⟨o,rfl⟩ | ⟨mm,v,o,rfl,x,G⟩
 .rw [f.out] at o;cases o
 rw [f.out] at o;injection o with o;subst o;have c:=tP (pY f.out);obtain ⟨X,nv,Z,rfl⟩:=fu x;obtain ⟨W,i⟩:=QE (w1.alloc (YU #[I J m.id,I J m.time,T (bs m.xk),L X nv Z,T (bs m.body)] 91));have r:=QG i;have HT:=K (zZ b s y q z a m _ W (M.out.xo r) _ (aB x λg Y e _=>ae r e) G c.1 hn P.out Q.out);have d:=K (A.out.trans (r.mono A.out.size));have t:=K i;simp only [bh];clear c r i x G;go_wp2_with fail
 rw [t.out];refine HT.out.mono ?_;rintro e w7 ⟨rfl,q',O,U,V⟩;go_wp2_with fail
 go_ret;exact ⟨rfl,q',O,(aC.below d.out:aC _ _ _).trans U (λk _ e=>e),λk hk=>(V k hk).imp (λe=>fp B.out d.out e) (λe=>Rn d.out.size e)⟩
structure lA(w:QI)(pb mb:Nat)(q:Nat->Nat)(vr:QJ)(S:aa)(xb:QF):Prop where
 xN:bt 0 w pb mb q vr S
 row:eQ w vr xb
def aH(w:QI)(pb mb:Nat)(q:Nat->Nat)(vr:QJ)(S:aa)(k:Nat):Prop:=jf w pb mb q S k\/vr.ownBlock=some k
def jM(pb mb:Nat)(q:Nat->Nat)(vr:QJ)(S:aa)(xb:QF)(m:aX)(w w':QI):Prop:=
 ∃q' vr',lA w' pb mb q' vr' (S.plus m) (xb++bJ (bT m))/\aC (aH w pb mb q vr S) w w'/\∀k,aH w' pb mb q' vr' (S.plus m) k->aH w pb mb q vr S k\/w.heap.size<=k
theorem Nw{w:QI}{b f j:Nat}{q:Nat->Nat}{c:QJ}{a:aa}{k:QF}(h:bt b w f j q c a)(i:eQ w c k):c.ownBlock≠S f:=λe=>by
 obtain ⟨g,z,d⟩:=i.tag e;rw [h.xx] at d;simp at d
theorem Nv{w:QI}{b j f:Nat}{q:Nat->Nat}{c:QJ}{a:aa}{k:QF}(h:bt b w j f q c a)(i:eQ w c k):c.ownBlock≠S f:=λe=>by
 obtain ⟨g,z,d⟩:=i.tag e;have:=h.map;unfold iu at this;rw [this] at d;simp at d
theorem bt.row{f s p:Nat}{q:Nat->Nat}{l:QJ}{d:aa}{D:QF}{w u:QI}(h:bt f w s p q l d)(o:eQ w l D)(m:aC (λk=>l.ownBlock=S k) w u):bt f u s p q l d:=by
 have r:∀{k:Nat} {C:Array QJ} {t:TypeId} {z:Nat×Nat},w.heap[k]? =S (YU C t z)->t≠5->l.ownBlock≠S k:=λe B y=>by
  obtain ⟨n,E,j⟩:=o.tag y;rw [e] at j;injection j with j;injection j with _ j _;exact B j
 refine ⟨m.some_ h.xx (Nw h o),m.some_ h.map (Nv h o),h.yyW,h.xZ,h.one,λi A=>?_⟩;obtain ⟨a,v,x,b,c⟩:=h.xu i A;exact ⟨a,v,x,m.some_ b (r b (by decide)),aB c λg n e _=>m.some_ e (r e (by decide))⟩
theorem vI(d p:Nat)(q:Nat->Nat)(r:QJ)(b:aa)(A:QF)(m:aX)(n:Int)(w:QI)(h:lA w d p q r b A)(hl:(bT m).length<=1048568)(a5:A.length<=1073741824)(hm:w.cell? ⟨0,0,N⟩=S (I J n))(hn:b.items.length < 4294967295)(G:bP (bT m)=S m)(s:m.id=b.items.length+1)(h2:b.time<=m.time):Y8 prog 199 #[YV (S ⟨d,0,N⟩),.string (bs (bT m))] w λe w'=>e=YX (YW true)/\jM d p q r b A m w w':=by
 have HT:=K (vG 0 d p q r b (bT m) m n w h.xN (by omega) hm hn G s h2);have C:=K h;have D:(bJ (bT m)).length=8+(bT m).length:=by unfold bJ;simp only [List.length_append,aY];omega
 obtain ⟨l,el⟩:=QE (bT m);have HE:=K el;rw [el] at HT hl D ⊢;clear h hm G s h2 el;go_enter func199,ntmps199;go_wp2_with fail
 refine HT.out.mono ?_;rintro e o ⟨rfl,u,P,Z,O1⟩
 have R1:eQ o r A:=C.out.row.xt Z (λg O e=>by
  rcases e with e | e
  .exact Nw C.out.xN C.out.row (by rw [<-e];exact O)
  exact Nv C.out.xN C.out.row (by rw [<-e];exact O))
 obtain ⟨av,cv,ev⟩:=R1.len;have d0:o.drew.cell? ⟨d,0,N⟩=S r:=by show o.cell? _=_;rw [Q3 P.xx];rfl
 have Y:=K (LN l o.drew (by omega));have y:=K (P.xo ((QQ _ _).drew));have W:=K (R1.below ((QQ _ _).drew));have Q:=K (Z.trans (aC.below ((QQ o.heap.size o).drew):aC (λ_=>False) o o.drew) (λ_ _ e=>e.elim));have U:=K O1;clear P R1 Z O1;go_wp2_with fail
 have B:Hid (∀v:QI,Below o.drew.heap.size o.drew v->∃a n c j,(Builtin.append_ #[100,9] 100 #[r,.string (bs (bJ l))]).run prog v= .ok (L a n c) j/\j.cell? ⟨d,0,N⟩=S r/\j.frozen? ⟨d,0,N⟩=false/\lA (j.setCell ⟨d,0,N⟩ (L a n c)) d p u (L a n c) (b.plus m) (A++bJ l)/\aC (aH w d p q r b) w (j.setCell ⟨d,0,N⟩ (L a n c))/\∀k,aH (j.setCell ⟨d,0,N⟩ (L a n c)) d p u (L a n c) (b.plus m) k->aH w d p q r b k\/w.heap.size<=k):=K (by
  intro v f;have A2:=y.out.xo f;have R2:=W.out.below f;obtain ⟨a,n,c,j,hr,R3,K3,O3⟩:=R2.text (bJ l) (by rw [D];omega);have x:=A2.row R2 K3;have M:aA d j (j.setCell ⟨d,0,N⟩ (L a n c)):=(aA.refl _ _).setCell _;have A4:=x.yv (T:=(b.plus m).time) (vr':=L a n c) M (Ro j d 0 _ _ _ x.xx)
  have a2:(L a n c).ownBlock≠S d:=λe=>by
   obtain ⟨a0,z,s⟩:=R3.tag e;rw [x.xx] at s;simp at s
  have K2:aC (λk=>k=d\/k=p) w v:=Q.out.trans (aC.below f:aC (λ_=>False) _ _) (λ_ _ e=>e.elim);refine ⟨a,n,c,j,hr,Q3 x.xx _,RJ x.xx 0,⟨A4,R3.xt (aC.same M) (λg O e=>a2 (by rw [<-e];exact O))⟩,?_,?_⟩
  .exact ((K2.mono (λk _ e=>Y4 (e.imp id Y4))).trans K3 (λ_ _ e=>Y5 e)).trans (aC.same M) (λk _ e=>Y4 (Y4 e))
  intro k E
  rcases E with E | E
  .have a1:jf o d p u (b.plus m) k:=by
    refine jf.xo (λi hi=>?_) E;obtain ⟨_,v3,x3,b3,_⟩:=x.xu i hi;obtain ⟨_,v2,x2,b2,_⟩:=A2.xu i hi;have e4:(j.setCell ⟨d,0,N⟩ (L a n c)).heap[u i]? =j.heap[u i]? :=M.2 _ (λe=>by unfold gf at b3;rw [e,x.xx] at b3;simp at b3)
    have e3:j.heap[u i]? =v.heap[u i]? :=K3.block _ (aq b2) (λe=>by
     obtain ⟨a0,z,s⟩:=R2.tag e;unfold gf at b2;rw [b2] at s
     simp at s)
    obtain ⟨_,v1,x1,b1,_⟩:=y.out.xu i hi;exact e4.trans (e3.trans (f.block _ (aq b1)))
   exact (U.out k a1).imp Y4 id
  rcases O3 k E with e | e
  .exact Y4 (Y5 e)
  exact Y5 (Rn K2.size e))
 subst ev
 go_region_law (first
  | (refine kz rfl _ _ 100 9 rfl _ _ _ j rfl rfl a4.out ?_)
  | (go_simp;go_at_call 253;refine Y.out.mono ?_;rintro e v ⟨rfl,f⟩;obtain ⟨a3,n3,c3,j,t,p0,f0,R5,K5,O5⟩:=B.out v f;have d2:v.cell? ⟨d,0,N⟩=S (L av A.length cv):=(by rw [Q3 (y.out.xo f).xx];rfl);have a4:=K t;have X:=K R5;have R:=K K5;have V:=K O5;clear t R5 K5 O5 f;dsimp only))
 all_goals
  go_wp2_with fail
  go_ret;exact ⟨rfl,u,_,by rw [HE.out];exact X.out,R.out,V.out⟩
def xz(S:aa)(xk:QF)(xd:List QF)(body:QF):aX:=⟨S.items.length+1,S.time,xk,xd,body⟩
theorem pw{m:aX}(a:dJ m):(bT m).length<=1200000:=by
 obtain ⟨c,d,e,f,b,g⟩:=a;have:=Ab m.xd b;unfold bT j6;simp only [List.length_cons,List.length_append,aY];omega
theorem OH(m Q:Nat)(q:Nat->Nat)(R v:QJ)(a:aa)(g j b:QF)(i:List QF)(d:Int)(w:QI)(h:lA w m Q q R a g)(u:bg w v i.length 1 (ah i))(n:dJ (xz a j i b))(M:g.length<=1073741824)(c:d < ((g.length+(8+(bT (xz a j i b)).length):Nat):Int)):Y8 prog 226 #[YV (S ⟨m,0,N⟩),T (bs j),v,T (bs b),I J d] w λe x=>e=YX (YY #[I J 0,YW false])/\Below w.heap.size w x:=by
 have k:=K (qb (a.items.length+1) a.time j i b v w u n);have t:=pw n;have V:w.cell? ⟨m,1,N⟩=S (I J a.time):=Q3 h.xN.xx _;have X:w.cell? ⟨m,2,N⟩=S (I J a.items.length):=Q3 h.xN.xx _;obtain ⟨U,Y,D⟩:=az u;obtain ⟨A,B,C⟩:=h.row.len;subst D C;have G:a.items.length+1<=4294967295:=n.1;have O:IntKind.i64.wrap ((a.items.length:Int)+1)=((a.items.length+1:Nat):Int):=by rw [QY];omega
 obtain ⟨l,s⟩:=QE (bT (xz a j i b));rw [s] at t c;rw [show bT ⟨a.items.length+1,a.time,j,i,b⟩=l from s] at k;have P:IntKind.i64.wrap ((g.length:Int)+(8+(l.length:Int)))=(g.length:Int)+(8+(l.length:Int)):=by rw [QY];omega
 have p:=K h.xN.xx;have r:Hid (∀W:QI,Y8 prog 271 #[T (bs l)] W λe x=>e=YX (I J ((8+l.length:Nat):Int))/\W=x):=K (λW=>tZ l W (by omega));have E:d < (g.length:Int)+(8+(l.length:Int)):=by omega
 clear h u n s c;go_enter func226,ntmps226;go_wp2_with fail
 refine k.out.mono ?_;rintro e y ⟨rfl,f⟩;have z:=ae f p.out;have Z:y.drew.cell? ⟨m,0,N⟩=S (L A g.length B):=by show y.cell? _=_;rw [Q3 z];rfl
 have o:=K f;clear z f;go_wp2_with fail
 go_region_law (first
  | (go_simp;go_at_call 271;refine (r.out y.drew).mono ?_;rintro e w2 ⟨rfl,rfl⟩;dsimp only))
 all_goals
  go_wp2_with fail
  go_ret2
  exact ⟨rfl,o.out.trans ((QQ _ _).drew)⟩
theorem MF(m s:Nat)(q:Nat->Nat)(C vt:QJ)(a:aa)(g i b:QF)(f:List QF)(d:Int)(n:Int)(w:QI)(h:lA w m s q C a g)(Y:bg w vt f.length 1 (ah f))(y:dJ (xz a i f b))(X:g.length<=1073741824)(j:¬d < ((g.length+(8+(bT (xz a i f b)).length):Nat):Int))(a2:d<=1000000)(U:w.cell? ⟨0,0,N⟩=S (I J n))(x:bP (bT (xz a i f b))=S (xz a i f b)):Y8 prog 226 #[YV (S ⟨m,0,N⟩),T (bs i),vt,T (bs b),I J d] w λe z=>e=YX (YY #[I J ((a.items.length:Int)+1),YW true])/\jM m s q C a g (xz a i f b) w z:=by
 have u:Hid (∀W:QI,Below w.heap.size w W->Y8 prog 199 #[YV (S ⟨m,0,N⟩),T (bs (bT (xz a i f b)))] W λe z=>e=YX (YW true)/\jM m s q C a g (xz a i f b) W z):=K (λW Q=>vI m s q C a g (xz a i f b) n W ⟨h.xN.xo Q,h.row.below Q⟩ (by omega) X ((Q.cell (au U)).trans U) (by have:a.items.length+1<=4294967295:=y.1;omega) x rfl (QR _));have HH:=K h;have t:=K (qb (a.items.length+1) a.time i f b vt w Y y);have V:=pw y;have c1:w.cell? ⟨m,1,N⟩=S (I J a.time):=Q3 h.xN.xx _;have c2:w.cell? ⟨m,2,N⟩=S (I J a.items.length):=Q3 h.xN.xx _;obtain ⟨av,cv,ev⟩:=az Y;obtain ⟨O,P,er⟩:=h.row.len;subst ev er;have a1:a.items.length+1<=4294967295:=y.1;have a3:IntKind.i64.wrap ((a.items.length:Int)+1)=((a.items.length+1:Nat):Int):=by rw [QY];omega
 obtain ⟨l,B⟩:=QE (bT (xz a i f b));rw [B] at V j;rw [show bT ⟨a.items.length+1,a.time,i,f,b⟩=l from B] at t;have a4:IntKind.i64.wrap ((g.length:Int)+(8+(l.length:Int)))=(g.length:Int)+(8+(l.length:Int)):=by rw [QY];omega
 have E:=K h.xN.xx;have M:Hid (∀W:QI,Y8 prog 271 #[T (bs l)] W λe z=>e=YX (I J ((8+l.length:Nat):Int))/\W=z):=K (λW=>tZ l W (by omega));have a0:¬d < (g.length:Int)+(8+(l.length:Int)):=by omega
 rw [B] at u;clear h Y y B j U x;go_enter func226,ntmps226;go_wp2_with fail
 refine t.out.mono ?_;rintro e A ⟨rfl,p⟩;have b1:=ae p E.out;have d0:A.drew.cell? ⟨m,0,N⟩=S (L O g.length P):=by show A.cell? _=_;rw [Q3 b1];rfl
 have D:=K p;clear b1 p;go_wp2_with fail
 go_region_law (first
  | (go_simp;go_at_call 271;refine (M.out A.drew).mono ?_;rintro e w2 ⟨rfl,rfl⟩;dsimp only))
 all_goals
  go_wp2_with fail
  have r:Below w.heap.size w A.drew:=D.out.trans ((QQ _ _).drew);refine (u.out _ r).mono ?_;rintro e w5 ⟨rfl,v⟩;have G:=K v;have o:=K r;clear v r;go_wp2_with fail
  go_ret2
  obtain ⟨q',Z,R5,K5,O5⟩:=G.out;have c:∀k,aH A.drew m s q (L O g.length P) a k->aH w m s q (L O g.length P) a k:=λk R=>R.imp (λe=>fp HH.out.xN o.out e) id;exact ⟨rfl,q',Z,R5,((aC.below o.out:aC _ _ _)).trans K5 (λk _ e=>c k e),λk R=>(O5 k R).imp (c k) (λe=>Rn o.out.size e)⟩
end Go.Proofs.YtponhohdpophlaaGreatDoor
