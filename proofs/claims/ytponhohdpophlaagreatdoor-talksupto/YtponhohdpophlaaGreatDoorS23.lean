import Derived.Test.YtponhohdpophlaaGreatDoorS21
import Derived.Test.YtponhohdpophlaaGreatDoorS19
import Derived.Lib.LaidU8
namespace Go.Proofs.YtponhohdpophlaaGreatDoor
set_option maxHeartbeats 8000000
set_option maxRecDepth 1000000
open Go renaming Calls->Y8
open Go.Ending renaming returned->YX
open Go.IntKind renaming i64->J
open Go.Lib renaming cell_of_heap->Q3,frozen_of_heap->RJ
open Go.Lib.laidMet renaming reads->VA
open Go.Proofs.Tryz renaming func22->SH,ntmps22->SI,underlying5->Ux,func124->VR,ntmps124->VS,prog->Ys
open Go.RowKit.Below renaming refl->QQ
open Go.Value renaming int->I,slice->L,string->T,pointer->YV,bool->YW,tuple->YY
open _root_.Array renaming getElem?_toList->Sl
open _root_.Bool renaming false->F,true->YT
open _root_.List renaming getElem?_eq_some_iff->RT,getElem_map->RV,getElem?_eq_getElem->Re
open _root_.List.Mem renaming tail->VC,head->VD
open _root_.Option renaming none->N,some->S
open _root_.Option.some renaming injEq->U4,inj->Uc
open _root_.Or renaming inl->Y4,inr->Y5
open Go.Proofs.Tryz
open Go.RowKit
section
variable {E B:Nat->Prop} {pp pb mb:Nat} {c:bF} {w w':QI} {q:Nat->Nat} {vr:QJ} {S S':aa} {xb recs':QF} {vs:QJ} {ps:List QJ} {sb ch:Nat} {A:Nat->Prop} {vw:QJ} {s s':cj}
theorem Ih(sb:Nat)(b:Bool)(w:QI)(h:w.cell? ⟨sb,7,N⟩=some (YW b)):Y8 Ys 60 #[YV (some ⟨sb,0,N⟩)] w λe w'=>e=YX (YW b)/\w=w':=by
 go_enter func60,ntmps60;go_wp2_with fail
 go_ret;exact ⟨rfl,rfl⟩
theorem nu(h:fy E pp pb mb c w q vr S xb vs ps)(n:Nat)(m:n < ps.length)(_:ps.length<=100)(p:QK)(j:ps[n]=YV p):Y8 Ys 22 #[YV (some ⟨pp,0,N⟩),I J (n:Int)] w λe w'=>e=YX (YW p.isSome)/\w=w':=by
 have d:=h.xJ;obtain ⟨g,k,l,f,i,b⟩:=h.at m;have o:w.cell? ⟨g,n,N⟩=some (YV p):=by rw [Q3 i,b,j]
 rw [f] at d;have t:(n:Int) < (ps.length:Int):=by omega
 have r:(0:Int)<=(n:Int):=by omega
 clear h f i b j
 cases p with
 | none=>
  go_enter func22,ntmps22;go_wp2_with fail
  go_ret;exact ⟨rfl,rfl⟩
 | some a=>
  go_enter func22,ntmps22;go_wp2_with fail
  go_ret;exact ⟨rfl,rfl⟩
theorem Mu(h:fy E pp pb mb c w q vr S xb vs ps)(n:Nat)(p:n < ps.length)(_:ps.length<=100)(l:ps[n]=YV (some ⟨sb,0,N⟩))(b:Bool)(r:w.cell? ⟨sb,7,N⟩=some (YW b))(u:FrameMode):CallsD Ys 23 #[YV (some ⟨pp,0,N⟩),I J (n:Int)] u w λe u' w'=>u'=u/\e=YX (YY #[])/\∃g a,vs=L (some ⟨g,0,N⟩) ps.length a/\w'=if b then w.setCell ⟨g,n,N⟩ (YV N) else w:=by
 have m:=K (Ih sb b w r);have i:=h.xJ;obtain ⟨g,a,o,j,k,d⟩:=h.at p;have t:w.cell? ⟨g,n,N⟩=some (YV (some ⟨sb,0,N⟩)):=by rw [Q3 k,d,l]
 have v:=RJ k n;have x:(n:Int) < (ps.length:Int):=by omega
 rw [j] at i;have f:=K j;clear h l j k d;go_enter_d func23,ntmps23
 go_wp2_with fail
 refine m.out.mono ?_;rintro e w' ⟨rfl,rfl⟩
 cases b
 case true=>
  go_wp2_with fail
  go_end0
  exact ⟨rfl,g,⟨a,f.out⟩,rfl⟩
 go_wp2_with fail
 go_end0
 exact ⟨rfl,⟨g,a,f.out⟩,rfl⟩
def Eg(E:Nat->Prop)(pp pb mb:Nat)(c:bF)(w:QI)(q:Nat->Nat)(vr:QJ)(S:aa)(vs:QJ)(ps:List QJ)(sb ch:Nat)(A:Nat->Prop)(vw:QJ)(n:Nat)(s':cj)(S':aa)(recs':QF)(w':QI):Prop:=
 ∃A' q' vr' vw',iC E pp pb mb c w' q' vr' S' recs' vs (if s'.over then ps.set n (YV N) else ps) sb ch A' vw' s'/\(∀k,lY w' pb mb A' q' vr' S' vw' vs k->lY w pb mb A q vr S vw vs k\/w.heap.size<=k)/\aC (lY w pb mb A q vr S vw vs) w w'
theorem FK(h:iC E pp pb mb c w q vr S xb vs ps sb ch A vw s)(P:iG c s S xb)(n:Nat)(o:n < ps.length)(Q:ps.length<=100)(p:ps[n]=YV (some ⟨sb,0,N⟩))(a:QF)(v:a.length<=1048576):Y8 Ys 10 #[YV (some ⟨pp,0,N⟩),I J (n:Int),T (bs a)] w λe w'=>e=YX (YY #[T (bs (dx c (s,S,xb,[]) a).2.2.2),I J 0])/\Eg E pp pb mb c w q vr S vs ps sb ch A vw n (dx c (s,S,xb,[]) a).1 (dx c (s,S,xb,[]) a).2.1 (dx c (s,S,xb,[]) a).2.2.1 w':=by
 have X:=K (nu h.post n o Q _ p);have t:=h.post.xJ;obtain ⟨g,Z,a0,D,O,d⟩:=h.post.at o;have cn:w.cell? ⟨g,n,N⟩=some (YV (some ⟨sb,0,N⟩)):=by rw [Q3 O,d,p]
 have h1:(n:Int) < (ps.length:Int):=by omega
 rw [D] at t;have z:=K (MA h.rest P a v);have Y:=K h;have r:=K p;obtain ⟨x,G⟩:=QE (dx c (s,S,xb,[]) a);rw [G] at z ⊢;clear h p D O d P G;go_enter_defers func10,ntmps10
 go_wp2_with fail
 refine X.out.mono ?_;rintro e w' ⟨rfl,rfl⟩;go_wp2_with fail
 refine z.out.mono ?_;rintro e w1 ⟨rfl,M⟩;obtain ⟨y,W,l,m,R,U,V⟩:=Y.out.heard M;have b:=K R;have i:=K U;have j:=K V;clear R U V M;go_wp2_with fail
 obtain ⟨vx,hA,_⟩:=b.out.xA.ex;have u:w1.cell? ⟨sb,7,N⟩=some (YW x.1.over):=hA.cell 7;refine leaves_cons (f:=23) (args:=#[YV (some ⟨pp,0,N⟩),I J (n:Int)]) (by simp) (by simp [go_sem]) ?_;refine (Mu b.out.post n o Q r.out x.1.over u .returning).mono ?_;rintro e u' w2 ⟨rfl,rfl,g',C,hv,rfl⟩;refine ⟨YY #[T (bs x.2.2.2),I J 0],by simp [results,results10,go_sem],rfl,?_⟩
 unfold Eg
 cases x.1.over
 case false=>exact ⟨y,W,l,m,b.out,i.out,j.out⟩
 obtain ⟨p1,p2,p3⟩:=b.out.put (x:=YV N) hv o;exact ⟨y,W,l,m,p1,λk e=>i.out k (p2 k e),j.out.trans p3 (λk hk e=>(i.out k e).elim id (λe=>by omega))⟩
end
theorem AD:(prog.info? 69).map (λi=>(i.zero,i.size,i.bytes))=some (some (YV N),1,8):=by kernel_rfl
section
variable {E B:Nat->Prop} {pp pb mb:Nat} {c:bF} {w w1 w':QI} {q:Nat->Nat} {vr:QJ} {S S':aa} {xb recs':QF} {vs vs':QJ} {ps ps':List QJ} {sb ch:Nat} {A:Nat->Prop} {vw:QJ} {s s':cj}
theorem fy.conn(h:fy E pp pb mb c w q vr S xb vs ps)(v:aC (λk=>vs.ownBlock=some k) w w1)(j:w1.ownsRow 0 69 1 vs' ps'.length ps')(M:∀g,vs'.ownBlock=some g->vs.ownBlock=some g\/w.heap.size<=g):fy E pp pb mb c (w1.setCell ⟨pp,10,N⟩ vs') q vr S xb vs' ps'/\(∀k,aH (w1.setCell ⟨pp,10,N⟩ vs') pb mb q vr S k->aH w pb mb q vr S k)/\aC (λk=>k=pp\/vs.ownBlock=some k) w (w1.setCell ⟨pp,10,N⟩ vs'):=by
 have t:aA pp w1 (w1.setCell ⟨pp,10,N⟩ vs'):=(aA.refl _ _).setCell _;have a:aC (λk=>k=pp\/vs.ownBlock=some k) w (w1.setCell ⟨pp,10,N⟩ vs'):=(v.mono (λ_ _ e=>Y5 e)).trans (aC.same t) (λ_ _ e=>Y4 e);have G:=h.lt pp h.xI;have p:vs.ownBlock≠some pp:=λe=>(h.sd pp e).1 h.xI;obtain ⟨R,U,V,W,f,b⟩:=h.set;obtain ⟨D,P,Q⟩:=f.xp;obtain ⟨C,i,y,z,X⟩:=h.xp;have m:=v.some_ i p;have u:=heap_setCell_same w1 pp 10 _ _ vs' m;have o:D=C:=by rw [P] at i;injection i with i;injection i
 subst o;have l:∀k,E k->k≠pp->¬(k=pp\/vs.ownBlock=some k):=λk e n x=>x.elim n (λx=>(h.sd k x).1 e);obtain ⟨O,r⟩:=h.xx.xt a (λk e x=>x.elim (λx=>h.eb pp h.xI (by rw [<-x];exact e)) (λx=>(h.sd k x).2 e));have d:∀g,vs'.ownBlock=some g->¬E g/\¬aH w pb mb q vr S g:=λg e=>(M g e).elim (h.sd g) (λe=>⟨λx=>by have:=h.lt g x;omega,λx=>by have:=aH.lt h.xx x;omega⟩);refine ⟨⟨⟨R,U,V,W,⟨⟨_,u,?_⟩,⟨f.rows.1.xt a (λg e=>l g (b g (Y4 e)).1 (b g (Y4 e)).2),f.rows.2.1.xt a (λg e=>l g (b g (Y5 (Y4 e))).1 (b g (Y5 (Y4 e))).2),f.rows.2.2.1.xt a (λg e=>l g (b g (Y5 (Y5 (Y4 e)))).1 (b g (Y5 (Y5 (Y4 e)))).2),f.rows.2.2.2.xt a (λg e=>l g (b g (Y5 (Y5 (Y5 e)))).1 (b g (Y5 (Y5 (Y5 e)))).2)⟩,f.may⟩,b⟩,h.yf.xt a (λk e=>l k (h.yn k e) (λx=>h.yx (by rw [<-x];exact e))),h.yn,h.yx,h.xI,λk e=>Nat.lt_of_lt_of_le (h.lt k e) a.size,⟨_,u,by simpa using y,by rw [Array.getElem?_setIfInBounds_ne (by decide)];exact z,by rw [Array.getElem?_setIfInBounds_self_of_lt (by omega)]⟩,O,bG j (aC.same t) (λg e x=>(d g e).1 (by rw [x];exact h.xI)),λk e x=>h.eb k e (r k x),λg e=>⟨(d g e).1,λx=>(d g e).2 (r g x)⟩⟩,r,a⟩
 rw [Array.toList_setIfInBounds,List.take_set_of_le (by decide)];exact Q
def LV(E:Nat->Prop)(pp pb mb:Nat)(c:bF)(w:QI)(q:Nat->Nat)(vr:QJ)(S:aa)(xb:QF)(vs:QJ)(ps:List QJ)(addr:Int)(w':QI):Prop:=
 ∃sb ch vs',iC E pp pb mb c w' q vr S xb vs' (ps++[YV (some ⟨sb,0,N⟩)]) sb ch (λk=>k=sb\/k=ch) (L N 0 0) (kV c addr)/\w.heap.size<=sb/\w.heap.size<=ch/\(∀g,vs'.ownBlock=some g->vs.ownBlock=some g\/w.heap.size<=g)/\(∀k,aH w' pb mb q vr S k->aH w pb mb q vr S k)/\aC (λk=>k=pp\/vs.ownBlock=some k) w w'
theorem EE(h:fy E pp pb mb c w q vr S xb vs ps)(a:Int)(h0:0<=a)(h1:a<=4294967295)(hl:ps.length < 100):Y8 Ys 9 #[YV (some ⟨pp,0,N⟩),I J a] w λe w'=>e=YX (YY #[I J (ps.length:Int),T (bs (lK c)),I J 0])/\LV E pp pb mb c w q vr S xb vs ps a w':=by
 have a5:=h.xJ;have c9:=h.yo;have HB:=K (JV (pb:=pb) (w:=w.drew) (h.env.below ((QQ _ _).drew)) a);have n:=K h;obtain ⟨W,X,ev⟩:=az (bq h.row);rw [ev] at a5;have d:=K ev;have n0:¬a < 0:=by omega
 have n1:¬(4294967295:Int) < a:=by omega
 have n2:¬((ps.length:Int)=100):=by omega
 clear h ev;go_enter func9,ntmps9;go_wp2_with fail
 go_region_law (first
  | (go_simp;go_at_call 21;refine HB.out.mono ?_;rintro e w1 ⟨sb,ch,rfl,hS,m,l,G⟩;have HS:=K hS;have Z:=K G;have a4:=K m;have a0:=K l;clear hS m l G;dsimp only))
 all_goals
  have Y:Below w.heap.size w w1:=((QQ _ w).drew).trans (Z.out.mono (Nat.le_refl _));have b:=(n.out.below Y).1;have p:=b.xJ;rw [d.out] at p;have a8:∀o:Obj,(w1.alloc o).cell? ⟨pp,10,N⟩=some (L W ps.length X):=λo=>(World.cell?_of_block (((QQ _ w1).alloc (Nat.le_refl _) o).block pp (b.lt pp b.xI))).trans p;obtain ⟨i,hi,R,u,U⟩:=info_parts AD;have f:=b.row;rw [d.out] at f;obtain ⟨g,j,D,Q,O,V,O2⟩:=pg (P:=Ys) underlying63 hi R u U rfl w1 (w1.alloc (.cells #[YV (some ⟨sb,0,N⟩)] 69)) (L W ps.length X) (YV (some ⟨sb,0,N⟩)) ps.length ps f rfl ((QQ _ _).alloc (Nat.le_refl _) _) (heap_alloc_new w1 _) (by unfold maxLen;omega) (by omega);have a3:=K Q;have a1:=K O;have z:=K V;have a2:=K O2;have C:=V.some_ b.xp.choose_spec.1 (λe=>(b.sd pp (by rw [d.out];exact e)).1 b.xI)
  have b0:D.cell? ⟨pp,10,N⟩=some (L W ps.length X):=by
   rw [<-p];exact World.cell?_of_block (V.block pp (b.lt pp b.xI) (λe=>(b.sd pp (by rw [d.out];exact e)).1 b.xI))
  have b1:=RJ C 10;have a9:=K b;have y:=K Y;clear b Y f Q O V O2 C hi R u U
  go_wp2_with (first
   | (at_builtin;refine bp rfl _ _ 63 rfl _ _ (L (some ⟨g,0,N⟩) (ps.length+1) j) D rfl rfl a3.out ?_)
   | fail)
  refine bodyPost_ret (v:=YY #[I J (ps.length:Int),T (bs (lK c)),I J 0]) (by simp [results,results9,go_sem]) rfl ⟨rfl,?_⟩;have t:∀k,(L W ps.length X).ownBlock=some k->vs.ownBlock=some k:=λk e=>by rw [d.out];exact e
  have Kw:aC (λk=>vs.ownBlock=some k) w D:=(aC.below y.out).trans z.out (λk _ e=>t k e);have M:(ps++[YV (some ⟨sb,0,N⟩)]).length=ps.length+1:=by simp
  have u:w.heap.size<=w1.heap.size:=y.out.size;have m:w.heap.size<=sb:=a4.out;have l:w.heap.size<=ch:=a0.out;have a6:vs.ownBlock=some g\/w1.heap.size<=g:=a2.out.imp (t g) id
  have r:∀k,(L (some ⟨g,0,N⟩) (ps.length+1) j).ownBlock=some k->vs.ownBlock=some k\/w1.heap.size<=k:=λk e=>by
   injection e with e;have e:g=k:=e;rw [<-e];exact a6
  obtain ⟨p1,p2,p3⟩:=n.out.conn (vs':=L (some ⟨g,0,N⟩) (ps.length+1) j) (ps':=ps++[YV (some ⟨sb,0,N⟩)]) Kw (by rw [M];exact a1.out) (λk e=>(r k e).imp id (λe=>by omega));have a7:pp < w.heap.size:=n.out.lt pp n.out.xI;have K3:aC (λk=>k < w.heap.size) w1 (D.setCell ⟨pp,10,N⟩ (L (some ⟨g,0,N⟩) (ps.length+1) j)):=(z.out.mono (λk _ e=>n.out.slt (t k e))).trans (aC.same ((aA.refl pp D).setCell _)) (λk _ e=>by rw [e];exact a7);have l1:sb < w1.heap.size:=aq HS.out.xp;have l2:ch < w1.heap.size:=aq HS.out.chan.choose_spec.choose_spec;refine ⟨sb,ch,_,⟨p1,⟨⟨YV N,HS.out.xt K3 (by omega) (by omega),rfl⟩,Y4 rfl,Y5 rfl,λk e=>?_⟩,World.ownsRow_nil _ _ _ _,λk e x=>?_,λk e x=>?_,(by intro g e;cases e),λk e=>⟨λx=>?_,(by intro x;cases x)⟩⟩,m,l,λk e=>(r k e).imp id (λe=>by omega),p2,p3⟩
  .have:=K3.size
   rcases e with e | e <;> omega
  .have:=n.out.lt k e
   rcases x with x | x <;> omega
  .have:=aH.lt n.out.xx (p2 k x)
   rcases e with e | e <;> omega
  have:k < w.heap.size\/w1.heap.size<=k:=(r k e).imp (λe=>n.out.slt e) id
  rcases x with x | x <;> omega
end
def kW(l:List (Option gz))(n:Int):Option gz:=if 0<=n then (l[n.toNat]?).join else N
theorem Fy{l:List (Option gz)}{n:Int}{x:gz}(h:kW l n=some x):∃k:Nat,n=k/\k < l.length/\l[k]? =some (some x):=by
 unfold kW at h
 split at h
 .rename_i b
  refine ⟨n.toNat,by omega,?_,?_⟩
  .by_cases a:n.toNat < l.length
   .exact a
   rw [List.getElem?_eq_none (by omega)] at h;cases h
  cases e:l[n.toNat]? with
  | none=>rw [e] at h;cases h
  | some v=>rw [e] at h;exact congrArg some h
 cases h
theorem Fx{l:List (Option gz)}{n:Int}(h:kW l n=N):n < 0\/(l.length:Int)<=n\/∃k:Nat,n=k/\k < l.length/\l[k]? =some N:=by
 by_cases b:0<=n
 .by_cases a:n.toNat < l.length
  .refine Y5 (Y5 ⟨n.toNat,by omega,a,?_⟩);unfold kW at h;rw [if_pos b,Re a] at h;rw [Re a];exact congrArg some h
  exact Y5 (Y4 (by omega))
 exact Y4 (by omega)
section
variable {E B:Nat->Prop} {pp pb mb:Nat} {c:bF} {w w':QI} {q:Nat->Nat} {vr:QJ} {S:aa} {xb:QF} {vs:QJ} {l:List (Option gz)} {x:gz}
theorem E8(h:eh E pp pb mb c w q vr S xb vs l)(n:Int):Y8 Ys 22 #[YV (some ⟨pp,0,N⟩),I J n] w λe w'=>e=YX (YW (kW l n).isSome)/\w=w':=by
 have j:=h.len;have b:(l.map fh).length=l.length:=List.length_map ..
 cases m:kW l n
 case some x=>
  obtain ⟨k,rfl,f,g⟩:=Fy m;refine (nu h.post k (by rw [b];exact f) (by rw [b];exact j) (some ⟨x.sb,0,N⟩) ?_);obtain ⟨_,e⟩:=RT.1 g;rw [RV,e];rfl
 rcases Fx m with p | p | ⟨k,rfl,f,g⟩
 .clear h;go_enter func22,ntmps22;have r:¬(0:Int)<=n:=by omega
  go_wp2_with fail
  go_ret;exact ⟨rfl,rfl⟩
 .have d:=h.post.xJ;obtain ⟨a,o,i⟩:=az (bq h.post.row);rw [i,b] at d;clear h i;have s:(0:Int)<=n:=by omega
  have t:¬n < (l.length:Int):=by omega
  go_enter func22,ntmps22;go_wp2_with fail
  go_ret;exact ⟨rfl,rfl⟩
 refine (nu h.post k (by rw [b];exact f) (by rw [b];exact j) N ?_);obtain ⟨_,e⟩:=RT.1 g;rw [RV,e];rfl
end
theorem dF.later{g:Nat}{l k:QJ}{w b f:QI}{j:bf}{a:QF}{e:Ending}(h:dF g l k w j a e b)(i:Below b.heap.size b f):dF g l k w j a e f:=by
 obtain ⟨p,d,c,m,n,o⟩:=h;exact ⟨p,d,c,m.below i,n,o.trans (aC.below i:aC (λ_=>False) b f) (λ_ _ e=>e.elim)⟩
theorem FU(p b:Nat)(c:bF)(vD vN vU vW:QJ)(t s:QJ)(r:bf)(arg:QF)(a:Bool)(w:QI)(h:je w p c vD vN vU vW)(G:bB w b t s r)(hl:arg.length<=1048576):Y8 Ys 124 #[YV (S ⟨p,0,N⟩),YV (S ⟨b,0,N⟩),T ⟨#[72,69,76,79]⟩,T (bs arg),YW a] w (dF b t s w (aR c r [72,69,76,79] arg a).1 (aR c r [72,69,76,79] arg a).2):=by
 have Q:=K (bS (bs arg) w (by rw [aj];unfold maxLen;omega));have D:=K G;have R:=K h;have V:=oG h.may;have Y:=gH h.may;have X:c.host.size=(cX c).length:=by rw [<-nh c,aj]
 clear G h;go_enter func124,ntmps124;go_wp2_with fail
 refine Q.out.mono ?_;rintro e w1 ⟨rfl,C,rfl⟩;have g:Hid (Below w.heap.size w (w.drewN C)):=K (an C w _);obtain ⟨k,n⟩:∃W:QI,w.drewN C=W:=⟨_,rfl⟩;rw [n] at g ⊢;clear n;have f:=D.out.below g.out;have i:=R.out.below g.out;have l:=K f;have U:=K i
 have o:p≠b:=λe=>by
  obtain ⟨A,E,_⟩:=i.xp;rw [e,f.xp] at E;simp at E
 obtain ⟨d,B⟩:=QE (kS (bs arg).data.toList);rw [B];have m:Hid (fI arg=d):=K (by rw [kE];exact B);clear B;have k3:k.cell? ⟨b,3,N⟩=S (YW r.xj):=f.cell 3;have k5:k.cell? ⟨b,5,N⟩=S (YW r.begun):=f.cell 5;have kf:∀j:Nat,k.frozen? ⟨b,j,N⟩=F:=λj=>l.out.frozen j;have Z:k.cell? ⟨p,0,N⟩=S (T c.host):=i.cell 0 (by decide);have m5:k.cell? ⟨p,5,N⟩=S (I J c.size):=i.cell 5 (by decide);have O:=cP (j:=3) (v:=YW YT) f.xp (A':=bC {r with xj:=YT} t s) rfl;have P:=cP (j:=5) (v:=YW F) O (A':=bC {r with xj:=YT,begun:=F} t s) rfl;have z:=K P;have q:aA b k ((k.setCell ⟨b,3,N⟩ (YW YT)).setCell ⟨b,5,N⟩ (YW F)):=((aA.refl _ _).setCell _).setCell _;have a0:((k.setCell ⟨b,3,N⟩ (YW YT)).setCell ⟨b,5,N⟩ (YW F)).cell? ⟨p,0,N⟩=S (T c.host):=(q.cell o).trans Z;have a1:((k.setCell ⟨b,3,N⟩ (YW YT)).setCell ⟨b,5,N⟩ (YW F)).cell? ⟨p,5,N⟩=S (I J c.size):=(q.cell o).trans m5;have y:=K q;clear f i O P q
 cases d
 case false=>
  have x:Hid (aR c r [72,69,76,79] arg a=(r,gX)):=K (by
   have e:aR c r [72,69,76,79] arg a=if fI arg then ({r with xj:=YT,begun:=F},[50,53,48,32]++cX c) else (r,gX):=rfl
   rw [e,if_neg (by rw [m.out];decide)])
  go_wp2_with fail
  go_ret;rw [x.out];exact dF.still D.out g.out rfl
 have x:Hid (aR c r [72,69,76,79] arg a=({r with xj:=YT,begun:=F},[50,53,48,32]++cX c)):=K (by
  have e:aR c r [72,69,76,79] arg a=if fI arg then ({r with xj:=YT,begun:=F},[50,53,48,32]++cX c) else (r,gX):=rfl
  rw [e,if_pos m.out])
 have M:¬9223372036854775807 < 4+c.host.size:=by omega
 have u:Hid ((⟨#[50,53,48,32]⟩:QL)++c.host=bs ([50,53,48,32]++cX c)):=K (aQ [50,53,48,32] (cX c)).symm;go_wp2_with fail
 go_ret;rw [x.out];exact dF.turn g.out l.out y.out z.out rfl rfl (by rw [<-u.out];rfl)
theorem FR(p g:Nat)(c:bF)(vD vN vU vW:QJ)(Q P:QJ)(r:bf)(arg:QF)(f:Bool)(w:QI)(h:je w p c vD vN vU vW)(hc:bB w g Q P r)(hl:arg.length<=1048576):Y8 Ys 124 #[YV (S ⟨p,0,N⟩),YV (S ⟨g,0,N⟩),T ⟨#[69,72,76,79]⟩,T (bs arg),YW f] w (dF g Q P w (aR c r [69,72,76,79] arg f).1 (aR c r [69,72,76,79] arg f).2):=by
 have HD:=K (bS (bs arg) w (by rw [aj];unfold maxLen;omega));have HC:=K hc;have HH:=K h;have a3:=oG h.may;have b0:=gH h.may;have D:c.host.size=(cX c).length:=by rw [<-nh c,aj]
 clear hc h;go_enter func124,ntmps124;go_wp2_with fail
 refine HD.out.mono ?_;rintro e w1 ⟨rfl,n1,rfl⟩;have k:Hid (Below w.heap.size w (w.drewN n1)):=K (an n1 w _);obtain ⟨m,C⟩:∃W:QI,w.drewN n1=W:=⟨_,rfl⟩;rw [C] at k ⊢;clear C;have i:=HC.out.below k.out;have l:=HH.out.below k.out;have x:=K i;have a2:=K l
 have E:p≠g:=λe=>by
  obtain ⟨A,h1,_⟩:=l.xp;rw [e,i.xp] at h1;simp at h1
 obtain ⟨d,ed⟩:=QE (kS (bs arg).data.toList);rw [ed];have y:Hid (fI arg=d):=K (by rw [kE];exact ed);clear ed;have k3:m.cell? ⟨g,3,N⟩=S (YW r.xj):=i.cell 3;have k5:m.cell? ⟨g,5,N⟩=S (YW r.begun):=i.cell 5;have kf:∀j:Nat,m.frozen? ⟨g,j,N⟩=F:=λj=>x.out.frozen j;have m0:m.cell? ⟨p,0,N⟩=S (T c.host):=l.cell 0 (by decide);have m5:m.cell? ⟨p,5,N⟩=S (I J c.size):=l.cell 5 (by decide);have z3:=cP (j:=3) (v:=YW YT) i.xp (A':=bC {r with xj:=YT} Q P) rfl;have z5:=cP (j:=5) (v:=YW F) z3 (A':=bC {r with xj:=YT,begun:=F} Q P) rfl;have B:=K z5;have M:aA g m ((m.setCell ⟨g,3,N⟩ (YW YT)).setCell ⟨g,5,N⟩ (YW F)):=((aA.refl _ _).setCell _).setCell _;have t:((m.setCell ⟨g,3,N⟩ (YW YT)).setCell ⟨g,5,N⟩ (YW F)).cell? ⟨p,0,N⟩=S (T c.host):=(M.cell E).trans m0;have u:((m.setCell ⟨g,3,N⟩ (YW YT)).setCell ⟨g,5,N⟩ (YW F)).cell? ⟨p,5,N⟩=S (I J c.size):=(M.cell E).trans m5;have z:=K M;clear i l z3 z5 M
 cases d
 case false=>
  have V:Hid (aR c r [69,72,76,79] arg f=(r,gX)):=K (by
   have e:aR c r [69,72,76,79] arg f=if fI arg then ({r with xj:=YT,begun:=F},pN c) else (r,gX):=rfl
   rw [e,if_neg (by rw [y.out];decide)])
  go_wp2_with fail
  go_ret;rw [V.out];exact dF.still HC.out k.out rfl
 have V:Hid (aR c r [69,72,76,79] arg f=({r with xj:=YT,begun:=F},pN c)):=K (by
  have e:aR c r [69,72,76,79] arg f=if fI arg then ({r with xj:=YT,begun:=F},pN c) else (r,gX):=rfl
  rw [e,if_pos y.out])
 obtain ⟨Z,s⟩:∃W:QI,(m.setCell ⟨g,3,N⟩ (YW YT)).setCell ⟨g,5,N⟩ (YW F)=W:=⟨_,rfl⟩;rw [s] at B z t u;obtain ⟨n,O⟩:∃n:Nat,c.size=(n:Int):=⟨c.size.toNat,by omega⟩
 rw [O] at u;have U:=K (zM n Z.drew (by omega));have G:p < Z.heap.size:=au t;have a5:(Lib.itoa (n:Int)).length<=10:=mQ (by omega) (by omega);have a4:=aj (Lib.itoa (n:Int));have a6:¬9223372036854775807 < 4+c.host.size:=by omega
 have a7:¬9223372036854775807 < 4+c.host.size+11:=by omega
 have a8:¬9223372036854775807 < 4+c.host.size+11+(Lib.itoa (n:Int)).length:=by omega
 have a9:¬9223372036854775807 < 4+c.host.size+11+(Lib.itoa (n:Int)).length+16:=by omega
 have X:Hid ((⟨#[50,53,48,45]⟩:QL)++c.host++⟨#[13,10,50,53,48,45,83,73,90,69,32]⟩++bs (Lib.itoa (n:Int))++⟨#[13,10,50,53,48,32,65,85,84,72,32,80,76,65,73,78]⟩=bs (pN c)):=K (by
  have o:∀a b:QF,bs a++bs b=bs (a++b):=λa b=>by first | exact aQ a b | exact (aQ a b).symm
  unfold pN;rw [O];show bs [50,53,48,45]++bs (cX c)++bs [13,10,50,53,48,45,83,73,90,69,32]++bs (Lib.itoa (n:Int))++bs [13,10,50,53,48,32,65,85,84,72,32,80,76,65,73,78]=_
  rw [o,o,o,o])
 have a0:=K D;have a1:=K O;have Y:=K s;clear D O s;go_wp2_with fail
 rw [Y.out]
 go_region_law (first
  | (go_simp;go_at_call 195;refine U.out.mono ?_;rintro e w6 ⟨rfl,q⟩;have q0:w6.cell? ⟨p,0,N⟩=S (T c.host):=(q.cell (by exact G)).trans t;have q5:w6.cell? ⟨p,5,N⟩=S (I J (n:Int)):=(q.cell (by exact G)).trans u;have R:=K q;clear q;dsimp only))
 all_goals
  go_wp2_with fail
  go_ret;rw [V.out];exact (dF.turn k.out x.out z.out B.out rfl rfl (by rw [<-X.out];rfl)).later (((QQ _ Z).drew).trans (R.out.mono (Nat.le_refl _)))
theorem FT(p h:Nat)(c:bF)(l k:QJ)(r:bf)(a arg:QF)(d:Bool)(w:QI)(j:bB w h l k r)(s:arg.length<=1048576)(b:¬a=[81,85,73,84]/\¬a=[82,83,69,84]/\¬a=[78,79,79,80]/\¬a=[68,65,84,65]/\¬a=[72,69,76,79]/\¬a=[69,72,76,79]/\¬a=[65,85,84,72]/\¬a=[77,65,73,76]/\¬a=[82,67,80,84]):Y8 Ys 124 #[YV (S ⟨p,0,N⟩),YV (S ⟨h,0,N⟩),T (bs a),T (bs arg),YW d] w (dF h l k w (aR c r a arg d).1 (aR c r a arg d).2):=by
 have o:Hid (aR c r a arg d=(r,I2)):=K (by
  unfold aR
  rw [if_neg b.1,if_neg b.2.1,if_neg b.2.2.1,if_neg b.2.2.2.1,if_neg b.2.2.2.2.1,if_neg b.2.2.2.2.2.1,if_neg b.2.2.2.2.2.2.1,if_neg b.2.2.2.2.2.2.2.1,if_neg b.2.2.2.2.2.2.2.2])
 have n:=K (bS (bs arg) w (by rw [aj];unfold maxLen;omega));have m:=K j;have t:((bs a).toList == [81,85,73,84])=F:=by rw [beq_eq_false_iff_ne,ByteArray.toList_eq,ao];exact b.1
 have u:((bs a).toList == [82,83,69,84])=F:=by rw [beq_eq_false_iff_ne,ByteArray.toList_eq,ao];exact b.2.1
 have v:((bs a).toList == [78,79,79,80])=F:=by rw [beq_eq_false_iff_ne,ByteArray.toList_eq,ao];exact b.2.2.1
 have x:((bs a).toList == [68,65,84,65])=F:=by rw [beq_eq_false_iff_ne,ByteArray.toList_eq,ao];exact b.2.2.2.1
 have y:((bs a).toList == [72,69,76,79])=F:=by rw [beq_eq_false_iff_ne,ByteArray.toList_eq,ao];exact b.2.2.2.2.1
 have z:((bs a).toList == [69,72,76,79])=F:=by rw [beq_eq_false_iff_ne,ByteArray.toList_eq,ao];exact b.2.2.2.2.2.1
 have A:((bs a).toList == [65,85,84,72])=F:=by rw [beq_eq_false_iff_ne,ByteArray.toList_eq,ao];exact b.2.2.2.2.2.2.1
 have B:((bs a).toList == [77,65,73,76])=F:=by rw [beq_eq_false_iff_ne,ByteArray.toList_eq,ao];exact b.2.2.2.2.2.2.2.1
 have C:((bs a).toList == [82,67,80,84])=F:=by rw [beq_eq_false_iff_ne,ByteArray.toList_eq,ao];exact b.2.2.2.2.2.2.2.2
 clear j b;go_enter func124,ntmps124;go_wp2_with fail
 refine n.out.mono ?_;rintro e D ⟨rfl,i,rfl⟩;have f:Hid (Below w.heap.size w (w.drewN i)):=K (an i w _);obtain ⟨q,g⟩:∃W:QI,w.drewN i=W:=⟨_,rfl⟩;rw [g] at f ⊢;clear g;go_wp2_with fail
 go_ret;rw [o.out];exact dF.still m.out f.out rfl
theorem IV(p d:Nat)(c:bF)(j k l m f e:QJ)(r:bf)(b arg:QF)(a:Bool)(w:QI)(h:je w p c j k l m)(g:bB w d f e r)(i:arg.length<=1048576)(z:0<=r.addr)(A:r.xd.length<=10):Y8 Ys 124 #[YV (S ⟨p,0,N⟩),YV (S ⟨d,0,N⟩),T (bs b),T (bs arg),YW a] w (dF d f e w (aR c r b arg a).1 (aR c r b arg a).2):=by
 by_cases n:b=[81,85,73,84]
 .subst n;exact FX p d c f e r arg a w g i
 by_cases o:b=[82,83,69,84]
 .subst o;exact FZ p d c f e r arg a w g i
 by_cases q:b=[78,79,79,80]
 .subst q;exact FW p d c f e r arg a w g i
 by_cases s:b=[68,65,84,65]
 .subst s;exact FQ p d c f e r arg a w g i
 by_cases t:b=[72,69,76,79]
 .subst t;exact FU p d c j k l m f e r arg a w h g i
 by_cases u:b=[69,72,76,79]
 .subst u;exact FR p d c j k l m f e r arg a w h g i
 by_cases v:b=[65,85,84,72]
 .subst v;exact FP p d c j k l m f e r arg a w h g i
 by_cases x:b=[77,65,73,76]
 .subst x;exact FV p d c j k l m f e r arg a w h g i
 by_cases y:b=[82,67,80,84]
 .subst y;exact FY p d c j k l m f e r arg a w h g i z A
 exact FT p d c f e r b arg a w g i ⟨n,o,q,s,t,u,v,x,y⟩
theorem AV(l:QF)(w:QI)(g:l.length<=140737488355328):Y8 Ys 122 #[T (bs l),T ⟨#[46]⟩] w λe d=>e=YX (YW (l.headD 0 == 46))/\w=d:=by
 have i:=aj l
 cases l with
 | nil=>
  have f:(bs ([]:QF)).size=0:=rfl;go_enter func122,ntmps122;go_wp2_with fail
  go_ret;exact ⟨rfl,rfl⟩
 | cons b t=>
  have h:(bs (b::t)).extract 0 1=bs [b]:=by rw [bR];rfl
  have a:(1:Int)<=((b::t).length:Int):=by simp;omega
  go_enter func122,ntmps122
  have c:Hid (((bs [b]).toList == [46])=((b::t).headD 0 == 46)):=K (by
   rw [ByteArray.toList_eq,ao,List.headD_cons,Bool.eq_iff_iff,beq_iff_eq,beq_iff_eq]
   simp)
  go_wp2_with fail
  go_ret;exact ⟨by rw [<-c.out];rfl,rfl⟩
open Go.ChangeShapes Go.WideShapes Go.RowKit Go.Deep
theorem ML:(Rows.laid_internal_strconv_uint64pow10:DataW Unit)=Lib.tabData .u64 Lib.pow10Tab:=by kernel_rfl
theorem Ir:Rows.laid_unicode_utf8_first=Lib.firstData:=by kernel_rfl
theorem Fc:(Rows.laid_unicode_utf8_acceptRanges:DataW Unit)=Lib.acceptData:=by kernel_rfl
theorem vR:prog.cellsOf 5=1:=by kernel_rfl
theorem vQ:prog.cellsOf 346=2:=by kernel_rfl
theorem Ht:prog.globalNamed "unicode/utf8.first"=some 2:=by kernel_rfl
theorem Mx:prog.globalNamed "unicode/utf8.acceptRanges"=some 3:=by kernel_rfl
theorem My:prog.globalNamed "internal/strconv.uint64pow10"=some 6:=by kernel_rfl
theorem Jl:(prog.globals[2]?).map (·.type)=some 344:=by kernel_rfl
theorem N7:(prog.globals[3]?).map (·.type)=some 347:=by kernel_rfl
theorem N8:(prog.globals[6]?).map (·.type)=some 367:=by kernel_rfl
theorem Kq{W:QI}(h:laidMet Ys Rows.talksUptoRow.laid W)(s:W.ShapedOpen Ys):gh W:=by
 have z:Lib.VarReads Ys W "internal/strconv.uint64pow10" Rows.laid_internal_strconv_uint64pow10:=VA h (VC _ (VC _ (VC _ (VD _))));have A:Lib.VarReads Ys W "unicode/utf8.acceptRanges" Rows.laid_unicode_utf8_acceptRanges:=VA h (VC _ (VD _));have B:Lib.VarReads Ys W "unicode/utf8.first" Rows.laid_unicode_utf8_first:=VA h (VD _)
 rw [ML] at z;rw [Fc] at A;rw [Ir] at B;refine ⟨tQ s,?_,?_,?_⟩
 .obtain ⟨g,t,u,l,p,m,b,a,n⟩:=z;obtain rfl:=Uc (My.symm.trans m);obtain rfl:=Uc (N8.symm.trans b);unfold vu Lib.TabIs;rw [a, <-Lib.cells_of_tab underlying367 underlying265 (by kernel_rfl) (by kernel_rfl) n]
 .intro c C;obtain ⟨g,t,u,l,p,m,b,a,n⟩:=B;obtain rfl:=Uc (Ht.symm.trans m);obtain rfl:=Uc (Jl.symm.trans b);have e:=Lib.cells_of_tab underlying344 underlying5 vR (by kernel_rfl) n;have:=World.var?_cell m a c;rw [this, <-Sl,e];simp [Lib.firstTab,C]
 intro i y;obtain ⟨g,t,u,l,p,m,b,a,n⟩:=A;obtain rfl:=Uc (Mx.symm.trans m);obtain rfl:=Uc (N7.symm.trans b);obtain ⟨r,d,q,o,x⟩:=Lib.array_elem underlying347 n i y;simp only [List.getElem?_map,List.getElem?_range y,Option.map_some,U4] at o;subst o;rw [vQ] at x
 have e:=Lib.ints_of_struct underlying346 (λj f k=>by
  match j,k with
  | 0,k=>simp at k;subst k;exact ⟨underlying5,rfl,vR⟩
  | 1,k=>simp at k;subst k;exact ⟨underlying5,rfl,vR⟩
  | j+2,k=>simp at k) (by rw [vQ];rfl) x
 have v:=congrArg (·[0]?) e;have w:=congrArg (·[1]?) e;simp only [List.getElem?_take,List.getElem?_drop] at v w
 constructor
 .rw [World.var?_cell m a (2 * i), <-Sl];simpa [Nat.mul_comm] using v
 rw [World.var?_cell m a (2 * i+1), <-Sl];simpa [Nat.mul_comm] using w
end Go.Proofs.YtponhohdpophlaaGreatDoor
