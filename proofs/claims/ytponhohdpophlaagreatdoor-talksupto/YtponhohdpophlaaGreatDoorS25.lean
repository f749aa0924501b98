import Derived.Test.YtponhohdpophlaaGreatDoorS24
namespace Go.Proofs.YtponhohdpophlaaGreatDoor
set_option maxHeartbeats 8000000
set_option maxRecDepth 1000000
open Go.Lib renaming cell_of_heap->Q3,frozen_of_heap->RJ
open Go.Obj renaming cells->YU
open Go.RowKit.Below renaming refl->QQ
open Go.Value renaming slice->L,pointer->YV
open _root_.Nat renaming le_refl->QR,zero_le->QS
open _root_.Option renaming none->N,some->S
open Go.Proofs.Tryz
open Go.RowKit
theorem Dk(l:List mA)(w wr:QI)(b R b1 k:Nat)(v:QJ)(A:List (QJ×QJ))(m:Int)(a8 a9:QJ)(r p n:Int)(xy:Bool)(d:QF)(c:bF)(aD aN aU aW:QK)(cD cN cU cW:Nat)(f K0:Act->QI->Prop)(a:Act)(hF:kc l (S ⟨b,R,N⟩) b1 w a8 a9 k v a)(h:Am l w wr b R b1 k v A m a8 a9 r p n xy d c aD aN aU aW cD cN cU cW f)(hk:r=12)(h1:A.length≠0):Code.wp prog (oE Tryz.f6) (Exit.then f (Exit.inBlock 0 (Exit.then K0 (bodyPost prog Tryz.f6 λe w'=>e=Ending.returned (.bool true)/\Below w.heap.size w w')))) a wr:=by
 iterate 146 (obtain ⟨_,hF⟩:=hF)
 obtain ⟨rfl,rfl⟩:=hF;have HS:=K h.st;have h0:=h.tk;have g9:=h.lt;have hl:=h.ll;have HO:=K h.ok;have HM:=K h.mm;have HK:=K h.next;have g0:(k:Int) < (l.length:Int):=by omega
 have mv:∀i u,i < 14->(aP r p n xy d c (L aD c.xf.length cD) (L aN c.xe.length cN) (L aU c.x9.length cU) (L aW c.waits.length cW))[i]? =S u->wr.cell? ⟨b,R+k * 14+i,N⟩=S u:=λi u hi e=>(HS.out.below.cell (p:=⟨b,R+k * 14+i,N⟩) (by exact au (h.cell i u hi e))).trans (h.cell i u hi e);obtain ⟨c0,c1,c2,c3,c4,c5,c6,c7,c8,c9,d8,d9,e0,e1⟩:=Dw mv;obtain ⟨g,Q⟩:=QE (wr.alloc (YU (aP r p n xy d c (L aD c.xf.length cD) (L aN c.xe.length cN) (L aU c.x9.length cU) (L aW c.waits.length cW)) 49));have B1:=QG Q;have X1:=K (QH Q);obtain ⟨KB,b2⟩:=QE (k * 2097152);have g6:KB<=137438953472:=by omega
 have d1:Hid (KB+2097152<=(k+1) * 2097152):=K (by omega);obtain ⟨O,b3⟩:=QE (k * 1048576);have g7:O<=68719476736:=by omega
 have d6:Hid (O+1048576<=(k+1) * 1048576):=K (by omega);rw [b2,b3] at HS;have y:=K (HS.out.xo B1);have a6:=K Q;have d3:Hid (∀W,Below w.heap.size w W->W.cell? ⟨0,0,N⟩=S (.int .i64 m)):=K (λW hW=>(hW.cell (by exact au HM.out)).trans HM.out);simp only [aP] at a6;clear h mv Q B1 HS HM b2 b3;subst hk;obtain ⟨it,e4,b6,b7,d0⟩:=info_parts sR;obtain ⟨a5,b0,e5⟩:=mc y.out.all;subst e5;have t5:((A.length:Int) == 0)=false:=by rw [beq_eq_false_iff_ne];omega
 have h3:decide ((A.length:Int)=0)=false:=decide_eq_false (by omega);have a0:=rK p (show 0 < A.length by omega);have a1:=K (λW=>oU p A.length W HO.out.p (by omega) (by omega));obtain ⟨j,ej⟩:=QE (oT p A.length);rw [ej] at a1 a0;have g4:(j:Int) < (A.length:Int):=by omega
 have M:Hid (HQ w g.drew w.heap.size KB O (L a5 A.length b0) A):=K (y.out.xo ((QQ _ _).drew));obtain ⟨own,b4,b5⟩:=M.out.get a0;have HT:=K b4;clear b4 b5;obtain ⟨g5,f8,e5,s0,s1⟩:=DX M.out.all a0;injection e5 with e5a _ e5c;subst e5a e5c;obtain ⟨px,py,ex,ey⟩:=HT.out.ptr;rw [ex] at s0 HT;rw [ey] at s1 HT;have a7:g.drew.heap[wr.heap.size]? =S (YU (aP 12 p n xy d c (L aD c.xf.length cD) (L aN c.xe.length cN) (L aU c.x9.length cU) (L aW c.waits.length cW)) 49 (0,0)):=X1.out;obtain ⟨o0,o1,o2,o3,o4,o5,o6,o7,o8,o9,e6,e7,e8,e9⟩:=jn a7;clear ej a7 ex ey;have RO:Hid (∀W,Below w.heap.size w W->fB O W (YV px) (YV py) own->Calls prog 16 #[.agg #[YV px,YV py],.agg (aP 12 p n xy d c (L aD c.xf.length cD) (L aN c.xe.length cN) (L aU c.x9.length cU) (L aW c.waits.length cW))] W (Ef W)):=K (λW hW e2=>IY O own (YV px) (YV py) 12 p n xy d c (L aD c.xf.length cD) (L aN c.xe.length cN) (L aU c.x9.length cU) (L aW c.waits.length cW) m W e2 (HO.out.cfg.below hW) HO.out.sz HO.out.rm HO.out.len (d3.out _ hW) HO.out.n (y.out.gl.below hW));have d2:Hid (w.heap.size<=g.heap.size):=K y.out.below.size;have Z:Below g.heap.size g (g.alloc (YU #[YV N,YV N] 52)).drew:=((QQ _ _).alloc (QR _) _).drew;have a3:=K (y.out.bound.xo Z);have d5:Hid (fB O (g.alloc (YU #[YV N,YV N] 52)).drew (YV px) (YV py) own):=K (HT.out.below (show Below g.drew.heap.size g.drew _ from ⟨Z.os,Z.tape,Z.output,Z.size,Z.block⟩));have d7:Hid ((g.alloc (YU #[YV N,YV N] 52)).drew.heap[g.heap.size]? =S (YU #[YV N,YV N] 52 (0,0))):=K (heap_alloc_new g _);have XA:(g.alloc (YU #[YV N,YV N] 52)).heap[wr.heap.size]? =S (YU (aP 12 p n xy d c (L aD c.xf.length cD) (L aN c.xe.length cN) (L aU c.x9.length cU) (L aW c.waits.length cW)) 49 (0,0)):=ae ((QQ _ _).alloc (QR _) _) X1.out;obtain ⟨q0,q1,q2,q3,q4,q5,q6,q7,q8,q9,f2,f3,f4,f5⟩:=jn XA;have z0:(g.alloc (YU #[YV N,YV N] 52)).cell? ⟨g5,j * 2,N⟩=S (YV px):=(((QQ g.heap.size g).alloc (QR _) _).cell (p:=⟨g5,j * 2,N⟩) (by exact au (show g.cell? _=_ from s0))).trans s0;have z1:(g.alloc (YU #[YV N,YV N] 52)).cell? ⟨g5,j * 2+1,N⟩=S (YV py):=(((QQ g.heap.size g).alloc (QR _) _).cell (p:=⟨g5,j * 2+1,N⟩) (by exact au (show g.cell? _=_ from s1))).trans s1;clear Z XA;conv=>arg 2;whnf
 go_wp2_with fail
 rw [a6.out];clear c0 c1 c2 c3 c4 c5 c6 c7 c8 c9 d8 d9 e0 e1
 go_region_law (first
  | (go_simp;go_at_call 12;refine (a1.out _).mono ?_;rintro e B ⟨rfl,rfl⟩)
  | (go_simp;go_at_call 16;refine (RO.out g.drew M.out.below HT.out).mono ?_;rintro e B ⟨f7,f6,s,rfl,o,D,z⟩;obtain ⟨U,V,rfl,rfl⟩:=o.ptr;obtain ⟨P,C⟩:=QE (B.alloc (YU #[YV U,YV V] 52));have B5:Below B.heap.size B P:=(by rw [<-C];exact (QQ _ _).alloc (QR _) _);have X5:P.heap[B.heap.size]? =S (YU #[YV U,YV V] 52 (0,0)):=(by rw [<-C];exact heap_alloc_new B _);have G:Hid (LR g.heap.size w P w.heap.size KB O (L (S ⟨g5,0,N⟩) A.length b0) A):=K ((M.out.bound.xo z).xo B5);have a4:=K ((o.below B5).mono (QS O));have X:Hid (∀k,s k->g.heap.size<=k):=K D;have x5:P.cell? ⟨B.heap.size,0,N⟩=S (YV U):=(Q3 X5 _);have y5:P.cell? ⟨B.heap.size,1,N⟩=S (YV V):=(Q3 X5 _);clear o z B5 X5)
  | (go_simp;go_at_call 16;refine (RO.out _ a3.out.toQ.below d5.out).mono ?_;rintro e B ⟨f7,f6,s,rfl,o,D,z⟩;obtain ⟨U,V,rfl,rfl⟩:=o.ptr;have X2:=ae z d7.out;have r0:B.cell? ⟨g.heap.size,0,N⟩=S (YV N):=(Q3 X2 _);have r1:B.cell? ⟨g.heap.size,1,N⟩=S (YV N):=(Q3 X2 _);have f0:=RJ X2 0;have f1:=RJ X2 1;obtain ⟨P,C⟩:=QE ((B.setCell ⟨g.heap.size,0,N⟩ (YV U)).setCell ⟨g.heap.size,1,N⟩ (YV V));obtain ⟨x5,y5,S5⟩:=oZ X2 C;have G:=K ((a3.out.xo z).boxed (QR g.heap.size) S5);have Y:∀k,s k->g.heap.size+1<=k:=(λk e=>by have h9:=D k e;simpa using h9);have a4:=K ((o.xt (aC.same S5) (λk e x=>by have:=Y k e;omega) (λk e x=>by have:=y.out.gl.lt e;have:=d2.out;omega)).mono (QS O));have X:Hid (∀k,s k->g.heap.size<=k):=K (λk e=>by have:=Y k e;omega);clear o z X2 S5))
 all_goals
  have M5:=G.out.toQ.all;have h2:w.heap.size<=P.heap.size:=G.out.toQ.below.size;clear q0 q1 q2 q3 q4 q5 q6 q7 q8 q9 f2 f3 f4 f5 z0 z1 o0 o1 o2 o3 o4 o5 o6 o7 o8 o9 e6 e7 e8 e9 s0 s1 C
  go_wp2_with (first
   | (at_builtin;refine cB _ rfl _ _ 41 rfl w.heap.size 52 it _ 2 16 underlying41 e4 b6 b7 d0 rfl (by decide) _ _ _ rfl (M5.alloc _) ⟨P.heap.size,0,N⟩ 1 1 [YV U,YV V] rfl rfl ?c1 ?c2 (by decide) ?c3 ?c4 ?c5 ?_)
   | fail)
  case c1=>exact World.news_of_block (cs:=#[YV U,YV V]) (t:=52) (fr:=(0,0)) (heap_alloc_new P _)
  case c2=>intro u hu;simp at hu;rcases hu with rfl | rfl <;> rfl
  case c3=>unfold maxLen;omega
  case c4=>omega
  case c5=>simp;omega
  intro g8 f9 w8 E q;have a2:=K (G.out.more (t:=(YV U,YV V)) a4.out X.out E q);clear E q M5 x5 y5;go_wp2_with fail
  refine (a2.out.still (by omega)).mono ?_;rintro e w9 ⟨rfl,e3⟩;have d4:=K (a2.out.xo e3);go_wp2_with fail
  refine HK.out _ _ _ (A++[(YV U,YV V)]) ?_ (by simp;omega) (d4.out.mono (by have:=d1.out;omega) (by have:=d6.out;omega));unfold kc
  iterate 146 apply Exists.intro
  exact ⟨by go_num,rfl⟩
end Go.Proofs.YtponhohdpophlaaGreatDoor
