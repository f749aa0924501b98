import Derived.Test.YtponhohdpophlaaGreatDoorS24
namespace Go.Proofs.YtponhohdpophlaaGreatDoor
set_option maxHeartbeats 8000000
set_option maxRecDepth 1000000
open Go.Ending renaming returned->YX
open Go.Obj renaming cells->YU
open Go.RowKit renaming Hid->H,Below->Y6
open Go.Value renaming int->I,slice->L,pointer->YV,bool->YW
open _root_.Bool renaming false->F,true->YT
open _root_.Option renaming none->N,some->S
open Go.Proofs.Tryz
open Go.RowKit
theorem Kz(l:List mA)(w wr:QI)(b o x k:Nat)(v:QJ)(tw:List (QJ×QJ))(m:Int)(s t:QJ)(g p n:Int)(xy:Bool)(f:QF)(c:bF)(G M O P:QK)(X Y Z cW:Nat)(d K0:Act->QI->Prop)(a:Act)(hF:kc l (S ⟨b,o,N⟩) x w s t k v a)(h:Am l w wr b o x k v tw m s t g p n xy f c G M O P X Y Z cW d)(hA:7 < g)(hB:g≠12):Code.wp prog (oE Tryz.f6) (Exit.then d (Exit.inBlock 0 (Exit.then K0 (bodyPost prog Tryz.f6 λe w'=>e=YX (YW YT)/\Y6 w.heap.size w w')))) a wr:=by
 iterate 146 (obtain ⟨_,hF⟩:=hF)
 obtain ⟨rfl,rfl⟩:=hF;have A:=K h.st;have a6:=h.tk;have a5:=h.lt;have hl:=h.ll;have HO:=K h.ok;have C:=K h.mm;have HK:=K h.next;have a1:(k:Int) < (l.length:Int):=by omega
 have mv:∀i u,i < 14->(aP g p n xy f c (L G c.xf.length X) (L M c.xe.length Y) (L O c.x9.length Z) (L P c.waits.length cW))[i]? =S u->wr.cell? ⟨b,o+k * 14+i,N⟩=S u:=λi u hi e=>(A.out.below.cell (p:=⟨b,o+k * 14+i,N⟩) (by exact au (h.cell i u hi e))).trans (h.cell i u hi e);obtain ⟨c0,c1,c2,c3,c4,c5,c6,c7,c8,c9,Q,R,U,V⟩:=Dw mv;obtain ⟨W1,j⟩:=QE (wr.alloc (YU (aP g p n xy f c (L G c.xf.length X) (L M c.xe.length Y) (L O c.x9.length Z) (L P c.waits.length cW)) 49));have B1:=QG j;have X1:=K (QH j);obtain ⟨KB,y⟩:=QE (k * 2097152);have a3:KB<=137438953472:=by omega
 have B:H (KB+2097152<=(k+1) * 2097152):=K (by omega);obtain ⟨VB,z⟩:=QE (k * 1048576);have a4:VB<=68719476736:=by omega
 have E:H (VB+1048576<=(k+1) * 1048576):=K (by omega);rw [y,z] at A;have q:=K (A.out.xo B1);have r:=K j;have a2:H (∀W,Y6 w.heap.size w W->W.cell? ⟨0,0,N⟩=S (I .i64 m)):=K (λW hW=>(hW.cell (by exact au C.out)).trans C.out);simp only [aP] at r;clear h mv j B1 A C y z;have t1:decide (7 < g)=YT:=decide_eq_true hA;have t2:(g == 12)=F:=by rw [beq_eq_false_iff_ne];exact hB
 have t3:(g != 12)=YT:=by rw [bne,t2];rfl
 conv=>arg 2;whnf
 go_wp2_with fail
 rw [r.out];clear c0 c1 c2 c3 c4 c5 c6 c7 c8 c9 Q R U V;refine (q.out.still (by omega)).mono ?_;rintro e w9 ⟨rfl,a0⟩;have D:=K (q.out.xo a0);go_wp2_with fail
 refine HK.out _ _ _ (tw) ?_ (by omega) (D.out.mono (by have:=B.out;omega) (by have:=E.out;omega));unfold kc
 iterate 146 apply Exists.intro
 exact ⟨by go_num,rfl⟩
theorem Dj(l:List mA)(w wr:QI)(b o x k:Nat)(v:QJ)(tw:List (QJ×QJ))(m:Int)(s t:QJ)(h p n:Int)(xy:Bool)(f:QF)(c:bF)(G M O P:QK)(X Y Z cW:Nat)(d K0:Act->QI->Prop)(a:Act)(hF:kc l (S ⟨b,o,N⟩) x w s t k v a)(g:Am l w wr b o x k v tw m s t h p n xy f c G M O P X Y Z cW d)(hk:h=12)(a1:tw.length=0):Code.wp prog (oE Tryz.f6) (Exit.then d (Exit.inBlock 0 (Exit.then K0 (bodyPost prog Tryz.f6 λe w'=>e=YX (YW YT)/\Y6 w.heap.size w w')))) a wr:=by
 iterate 146 (obtain ⟨_,hF⟩:=hF)
 obtain ⟨rfl,rfl⟩:=hF;have A:=K g.st;have a9:=g.tk;have a8:=g.lt;have hl:=g.ll;have HO:=K g.ok;have C:=K g.mm;have HK:=K g.next;have a2:(k:Int) < (l.length:Int):=by omega
 have mv:∀i u,i < 14->(aP h p n xy f c (L G c.xf.length X) (L M c.xe.length Y) (L O c.x9.length Z) (L P c.waits.length cW))[i]? =S u->wr.cell? ⟨b,o+k * 14+i,N⟩=S u:=λi u hi e=>(A.out.below.cell (p:=⟨b,o+k * 14+i,N⟩) (by exact au (g.cell i u hi e))).trans (g.cell i u hi e);obtain ⟨c0,c1,c2,c3,c4,c5,c6,c7,c8,c9,Q,R,U,V⟩:=Dw mv;obtain ⟨W1,j⟩:=QE (wr.alloc (YU (aP h p n xy f c (L G c.xf.length X) (L M c.xe.length Y) (L O c.x9.length Z) (L P c.waits.length cW)) 49));have B1:=QG j;have X1:=K (QH j);obtain ⟨KB,y⟩:=QE (k * 2097152);have a6:KB<=137438953472:=by omega
 have B:H (KB+2097152<=(k+1) * 2097152):=K (by omega);obtain ⟨VB,z⟩:=QE (k * 1048576);have a7:VB<=68719476736:=by omega
 have E:H (VB+1048576<=(k+1) * 1048576):=K (by omega);rw [y,z] at A;have q:=K (A.out.xo B1);have r:=K j;have a3:H (∀W,Y6 w.heap.size w W->W.cell? ⟨0,0,N⟩=S (I .i64 m)):=K (λW hW=>(hW.cell (by exact au C.out)).trans C.out);simp only [aP] at r;clear g mv j B1 A C y z;subst hk;obtain ⟨a5,a4,e5⟩:=mc q.out.all;rw [a1] at e5;subst e5;conv=>arg 2;whnf
 go_wp2_with fail
 rw [r.out];clear c0 c1 c2 c3 c4 c5 c6 c7 c8 c9 Q R U V;refine (q.out.still (by omega)).mono ?_;rintro e w9 ⟨rfl,a0⟩;have D:=K (q.out.xo a0);go_wp2_with fail
 refine HK.out _ _ _ (tw) ?_ (by omega) (D.out.mono (by have:=B.out;omega) (by have:=E.out;omega));unfold kc
 iterate 146 apply Exists.intro
 exact ⟨by go_num,rfl⟩
theorem Ib(l:List mA)(w wr:QI)(b o x k:Nat)(v:QJ)(tw:List (QJ×QJ))(m:Int)(s t:QJ)(g p n:Int)(xy:Bool)(f:QF)(c:bF)(G M O P:QK)(X Y Z cW:Nat)(d K0:Act->QI->Prop)(a:Act)(hF:kc l (S ⟨b,o,N⟩) x w s t k v a)(h:Am l w wr b o x k v tw m s t g p n xy f c G M O P X Y Z cW d)(hA:g<=7)(a1:g≠1)(a2:g≠2)(a3:tw.length=0):Code.wp prog (oE Tryz.f6) (Exit.then d (Exit.inBlock 0 (Exit.then K0 (bodyPost prog Tryz.f6 λe w'=>e=YX (YW YT)/\Y6 w.heap.size w w')))) a wr:=by
 iterate 146 (obtain ⟨_,hF⟩:=hF)
 obtain ⟨rfl,rfl⟩:=hF;have A:=K h.st;have b1:=h.tk;have b0:=h.lt;have hl:=h.ll;have HO:=K h.ok;have C:=K h.mm;have HK:=K h.next;have a4:(k:Int) < (l.length:Int):=by omega
 have mv:∀i u,i < 14->(aP g p n xy f c (L G c.xf.length X) (L M c.xe.length Y) (L O c.x9.length Z) (L P c.waits.length cW))[i]? =S u->wr.cell? ⟨b,o+k * 14+i,N⟩=S u:=λi u hi e=>(A.out.below.cell (p:=⟨b,o+k * 14+i,N⟩) (by exact au (h.cell i u hi e))).trans (h.cell i u hi e);obtain ⟨c0,c1,c2,c3,c4,c5,c6,c7,c8,c9,Q,R,U,V⟩:=Dw mv;obtain ⟨W1,j⟩:=QE (wr.alloc (YU (aP g p n xy f c (L G c.xf.length X) (L M c.xe.length Y) (L O c.x9.length Z) (L P c.waits.length cW)) 49));have B1:=QG j;have X1:=K (QH j);obtain ⟨KB,y⟩:=QE (k * 2097152);have a8:KB<=137438953472:=by omega
 have B:H (KB+2097152<=(k+1) * 2097152):=K (by omega);obtain ⟨VB,z⟩:=QE (k * 1048576);have a9:VB<=68719476736:=by omega
 have E:H (VB+1048576<=(k+1) * 1048576):=K (by omega);rw [y,z] at A;have q:=K (A.out.xo B1);have r:=K j;have a6:H (∀W,Y6 w.heap.size w W->W.cell? ⟨0,0,N⟩=S (I .i64 m)):=K (λW hW=>(hW.cell (by exact au C.out)).trans C.out);simp only [aP] at r;clear h mv j B1 A C y z;have t1:(g == 1)=F:=by rw [beq_eq_false_iff_ne];exact a1
 have t2:(g == 2)=F:=by rw [beq_eq_false_iff_ne];exact a2
 have t4:decide (7 < g)=F:=decide_eq_false (by omega);obtain ⟨a5,a7,e5⟩:=mc q.out.all;rw [a3] at e5;subst e5;conv=>arg 2;whnf
 go_wp2_with fail
 rw [r.out];clear c0 c1 c2 c3 c4 c5 c6 c7 c8 c9 Q R U V;refine (q.out.still (by omega)).mono ?_;rintro e w9 ⟨rfl,a0⟩;have D:=K (q.out.xo a0);go_wp2_with fail
 refine HK.out _ _ _ (tw) ?_ (by omega) (D.out.mono (by have:=B.out;omega) (by have:=E.out;omega));unfold kc
 iterate 146 apply Exists.intro
 exact ⟨by go_num,rfl⟩
theorem KA(l:List mA)(w wr:QI)(b o x k:Nat)(v:QJ)(A:List (QJ×QJ))(m:Int)(s t:QJ)(g p n:Int)(xy:Bool)(f:QF)(c:bF)(M O P Q:QK)(Y Z cU cW:Nat)(d K0:Act->QI->Prop)(a:Act)(hF:kc l (S ⟨b,o,N⟩) x w s t k v a)(h:Am l w wr b o x k v A m s t g p n xy f c M O P Q Y Z cU cW d)(a1:g≠1)(a2:g≠2)(a9:g < 3)(b2:A.length≠0):Code.wp prog (oE Tryz.f6) (Exit.then d (Exit.inBlock 0 (Exit.then K0 (bodyPost prog Tryz.f6 λe w'=>e=YX (YW YT)/\Y6 w.heap.size w w')))) a wr:=by
 iterate 146 (obtain ⟨_,hF⟩:=hF)
 obtain ⟨rfl,rfl⟩:=hF;have B:=K h.st;have b1:=h.tk;have b0:=h.lt;have hl:=h.ll;have HO:=K h.ok;have D:=K h.mm;have HK:=K h.next;have a3:(k:Int) < (l.length:Int):=by omega
 have mv:∀i u,i < 14->(aP g p n xy f c (L M c.xf.length Y) (L O c.xe.length Z) (L P c.x9.length cU) (L Q c.waits.length cW))[i]? =S u->wr.cell? ⟨b,o+k * 14+i,N⟩=S u:=λi u hi e=>(B.out.below.cell (p:=⟨b,o+k * 14+i,N⟩) (by exact au (h.cell i u hi e))).trans (h.cell i u hi e);obtain ⟨c0,c1,c2,c3,c4,c5,c6,c7,c8,c9,R,U,V,X⟩:=Dw mv;obtain ⟨W1,j⟩:=QE (wr.alloc (YU (aP g p n xy f c (L M c.xf.length Y) (L O c.xe.length Z) (L P c.x9.length cU) (L Q c.waits.length cW)) 49));have B1:=QG j;have X1:=K (QH j);obtain ⟨KB,y⟩:=QE (k * 2097152);have a7:KB<=137438953472:=by omega
 have C:H (KB+2097152<=(k+1) * 2097152):=K (by omega);obtain ⟨VB,z⟩:=QE (k * 1048576);have a8:VB<=68719476736:=by omega
 have G:H (VB+1048576<=(k+1) * 1048576):=K (by omega);rw [y,z] at B;have q:=K (B.out.xo B1);have r:=K j;have a4:H (∀W,Y6 w.heap.size w W->W.cell? ⟨0,0,N⟩=S (I .i64 m)):=K (λW hW=>(hW.cell (by exact au D.out)).trans D.out);simp only [aP] at r;clear h mv j B1 B D y z;have t1:(g == 1)=F:=by rw [beq_eq_false_iff_ne];exact a1
 have t2:(g == 2)=F:=by rw [beq_eq_false_iff_ne];exact a2
 obtain ⟨a5,a6,e5⟩:=mc q.out.all;subst e5;have t5:((A.length:Int) == 0)=F:=by rw [beq_eq_false_iff_ne];omega
 have b4:decide ((A.length:Int)=0)=F:=decide_eq_false (by omega);have t4:decide (7 < g)=F:=decide_eq_false (by omega);have t6:(g == 3)=F:=by rw [beq_eq_false_iff_ne];omega
 have t7:(g == 4)=F:=by rw [beq_eq_false_iff_ne];omega
 have t8:decide (5<=g)=F:=decide_eq_false (by omega);have t9:decide (8<=g)=F:=decide_eq_false (by omega);have b3:(g == 12)=F:=by rw [beq_eq_false_iff_ne];omega
 conv=>arg 2;whnf
 go_wp2_with fail
 rw [r.out];clear c0 c1 c2 c3 c4 c5 c6 c7 c8 c9 R U V X;refine (q.out.still (by omega)).mono ?_;rintro e w9 ⟨rfl,a0⟩;have E:=K (q.out.xo a0);go_wp2_with fail
 refine HK.out _ _ _ (A) ?_ (by omega) (E.out.mono (by have:=C.out;omega) (by have:=G.out;omega));unfold kc
 iterate 146 apply Exists.intro
 exact ⟨by go_num,rfl⟩
theorem Ic(l:List mA)(w wr:QI)(b s G k:Nat)(v:QJ)(tw:List (QJ×QJ))(m:Int)(D E:QJ)(j p n:Int)(xy:Bool)(f:QF)(c:bF)(aD aN aU aW:QK)(cD cN cU cW:Nat)(d K0:Act->QI->Prop)(a:Act)(hF:kc l (S ⟨b,s,N⟩) G w D E k v a)(g:Am l w wr b s G k v tw m D E j p n xy f c aD aN aU aW cD cN cU cW d)(hk:j=1):Code.wp prog (oE Tryz.f6) (Exit.then d (Exit.inBlock 0 (Exit.then K0 (bodyPost prog Tryz.f6 λe w'=>e=YX (YW YT)/\Y6 w.heap.size w w')))) a wr:=by
 iterate 146 (obtain ⟨_,hF⟩:=hF)
 obtain ⟨rfl,rfl⟩:=hF;have HS:=K g.st;have d2:=g.tk;have d1:=g.lt;have hl:=g.ll;have Z:=K g.ok;have HM:=K g.mm;have HK:=K g.next;have b4:(k:Int) < (l.length:Int):=by omega
 have mv:∀i u,i < 14->(aP j p n xy f c (L aD c.xf.length cD) (L aN c.xe.length cN) (L aU c.x9.length cU) (L aW c.waits.length cW))[i]? =S u->wr.cell? ⟨b,s+k * 14+i,N⟩=S u:=λi u hi e=>(HS.out.below.cell (p:=⟨b,s+k * 14+i,N⟩) (by exact au (g.cell i u hi e))).trans (g.cell i u hi e);obtain ⟨c0,c1,c2,c3,c4,c5,c6,c7,c8,c9,a7,a8,a9,b0⟩:=Dw mv;obtain ⟨W1,r⟩:=QE (wr.alloc (YU (aP j p n xy f c (L aD c.xf.length cD) (L aN c.xe.length cN) (L aU c.x9.length cU) (L aW c.waits.length cW)) 49));have B1:=QG r;have X1:=K (QH r);obtain ⟨KB,M⟩:=QE (k * 2097152);have b7:KB<=137438953472:=by omega
 have a0:H (KB+2097152<=(k+1) * 2097152):=K (by omega);obtain ⟨VB,O⟩:=QE (k * 1048576);have d0:VB<=68719476736:=by omega
 have a6:H (VB+1048576<=(k+1) * 1048576):=K (by omega);rw [M,O] at HS;have o:=K (HS.out.xo B1);have C:=K r;have a1:H (∀W,Y6 w.heap.size w W->W.cell? ⟨0,0,N⟩=S (I .i64 m)):=K (λW hW=>(hW.cell (by exact au HM.out)).trans HM.out);simp only [aP] at C;clear g mv r B1 HS HM M O;subst hk;obtain ⟨it,b2,R,U,V⟩:=info_parts sR;have a2:=K (zv c _ _ _ _ f m W1 (Z.out.cfg.below o.out.below) Z.out.sz Z.out.rm Z.out.len (a1.out W1 o.out.below) (o.out.gl.below o.out.below));conv=>arg 2;whnf
 go_wp2_with fail
 rw [C.out];refine a2.out.mono ?_;rintro e w2 ⟨d5,d4,b5,rfl,y,Q,P⟩;obtain ⟨X,Y,rfl,rfl⟩:=y.ptr;obtain ⟨W3,z⟩:=QE (w2.alloc (YU #[YV X,YV Y] 52));have B3:=QG z;have X3:=QH z;obtain ⟨x3,y3⟩:=QM X3;have x:=K ((o.out.bound.xo P).xo B3);have a4:=K ((y.below B3).mono (Nat.zero_le VB));have A:=K Q;have M3:=x.out.toQ.all;obtain ⟨a5,b6,e5⟩:=mc M3;subst e5;have d3:w.heap.size<=W3.heap.size:=x.out.toQ.below.size;clear y P B3 X3;clear c0 c1 c2 c3 c4 c5 c6 c7 c8 c9 a7 a8 a9 b0
 go_wp2_with (first
  | (at_builtin;refine cB _ rfl _ _ 41 rfl w.heap.size 52 it _ 2 16 underlying41 b2 R U V rfl (by decide) _ _ _ rfl (M3.alloc _) ⟨W3.heap.size,0,N⟩ 1 1 [YV X,YV Y] rfl rfl ?c1 ?c2 (by decide) ?c3 ?c4 ?c5 ?_)
  | fail)
 case c1=>exact World.news_of_block (cs:=#[YV X,YV Y]) (t:=52) (fr:=(0,0)) (heap_alloc_new W3 _)
 case c2=>intro u hu;simp at hu;rcases hu with rfl | rfl <;> rfl
 case c3=>unfold maxLen;omega
 case c4=>omega
 case c5=>simp;omega
 intro g8 b3 w8 q h;have B:=K (x.out.more (t:=(YV X,YV Y)) a4.out A.out q h);clear q h M3 z x3 y3;go_wp2_with fail
 refine (B.out.still (by omega)).mono ?_;rintro e w9 ⟨rfl,b1⟩;have a3:=K (B.out.xo b1);go_wp2_with fail
 refine HK.out _ _ _ (tw++[(YV X,YV Y)]) ?_ (by simp;omega) (a3.out.mono (by have:=a0.out;omega) (by have:=a6.out;omega));unfold kc
 iterate 146 apply Exists.intro
 exact ⟨by go_num,rfl⟩
theorem Di(l:List mA)(w wr:QI)(b r B k:Nat)(v:QJ)(tw:List (QJ×QJ))(m:Int)(z A:QJ)(j p n:Int)(xy:Bool)(f:QF)(c:bF)(Y Z aU aW:QK)(cD cN cU cW:Nat)(d K0:Act->QI->Prop)(a:Act)(hF:kc l (S ⟨b,r,N⟩) B w z A k v a)(g:Am l w wr b r B k v tw m z A j p n xy f c Y Z aU aW cD cN cU cW d)(hk:j=2):Code.wp prog (oE Tryz.f6) (Exit.then d (Exit.inBlock 0 (Exit.then K0 (bodyPost prog Tryz.f6 λe w'=>e=YX (YW YT)/\Y6 w.heap.size w w')))) a wr:=by
 iterate 146 (obtain ⟨_,hF⟩:=hF)
 obtain ⟨rfl,rfl⟩:=hF;have O:=K g.st;have d0:=g.tk;have b7:=g.lt;have hl:=g.ll;have HO:=K g.ok;have Q:=K g.mm;have HK:=K g.next;have b2:(k:Int) < (l.length:Int):=by omega
 have mv:∀i u,i < 14->(aP j p n xy f c (L Y c.xf.length cD) (L Z c.xe.length cN) (L aU c.x9.length cU) (L aW c.waits.length cW))[i]? =S u->wr.cell? ⟨b,r+k * 14+i,N⟩=S u:=λi u hi e=>(O.out.below.cell (p:=⟨b,r+k * 14+i,N⟩) (by exact au (g.cell i u hi e))).trans (g.cell i u hi e);obtain ⟨c0,c1,c2,c3,c4,c5,c6,c7,c8,c9,a0,a1,a2,a3⟩:=Dw mv;obtain ⟨X,o⟩:=QE (wr.alloc (YU (aP j p n xy f c (L Y c.xf.length cD) (L Z c.xe.length cN) (L aU c.x9.length cU) (L aW c.waits.length cW)) 49));have B1:=QG o;have X1:=K (QH o);obtain ⟨KB,C⟩:=QE (k * 2097152);have b5:KB<=137438953472:=by omega
 have P:H (KB+2097152<=(k+1) * 2097152):=K (by omega);obtain ⟨VB,D⟩:=QE (k * 1048576);have b6:VB<=68719476736:=by omega
 have U:H (VB+1048576<=(k+1) * 1048576):=K (by omega);rw [C,D] at O;have s:=K (O.out.xo B1);have y:=K o;have b3:H (∀W,Y6 w.heap.size w W->W.cell? ⟨0,0,N⟩=S (I .i64 m)):=K (λW hW=>(hW.cell (by exact au Q.out)).trans Q.out);simp only [aP] at y;clear g mv o B1 O Q C D;subst hk;obtain ⟨it,a6,E,G,M⟩:=info_parts sR;have V:=s.out.all;obtain ⟨a5,b4,e5⟩:=mc V;subst e5;have d1:w.heap.size<=X.heap.size:=s.out.below.size;obtain ⟨o0,o1,o2,o3,o4,o5,o6,o7,o8,o9,a7,a8,a9,b0⟩:=jn X1.out;have o:=y.out;conv=>arg 2;whnf
 go_wp2_with (first
  | (at_builtin;refine cB _ rfl _ _ 41 rfl w.heap.size 52 it _ 2 16 underlying41 a6 E G M rfl (by decide) _ _ _ rfl (V.alloc _) ⟨X.heap.size,0,N⟩ 1 1 [YV N,YV N] rfl rfl ?c1 ?c2 (by decide) ?c3 ?c4 ?c5 ?_)
  | fail)
 case c1=>exact World.news_of_block (cs:=#[YV N,YV N]) (t:=52) (fr:=(0,0)) (heap_alloc_new X _)
 case c2=>intro u hu;simp at hu;rcases hu with rfl | rfl <;> rfl
 case c3=>unfold maxLen;omega
 case c4=>omega
 case c5=>simp;omega
 intro g8 b1 w8 q h;have x:=K (s.out.bound.more (t:=(YV N,YV N)) (own9:=λ_=>False) (.inl ⟨rfl,rfl,λ_ e=>e⟩) (λ_ e=>e.elim) q h);clear q h V o o0 o1 o2 o3 o4 o5 o6 o7 o8 o9 a7 a8 a9 b0;clear c0 c1 c2 c3 c4 c5 c6 c7 c8 c9 a0 a1 a2 a3;go_wp2_with fail
 refine (x.out.still (by omega)).mono ?_;rintro e w9 ⟨rfl,a4⟩;have R:=K (x.out.xo a4);go_wp2_with fail
 refine HK.out _ _ _ (tw++[(YV N,YV N)]) ?_ (by simp;omega) (R.out.mono (by have:=P.out;omega) (by have:=U.out;omega));unfold kc
 iterate 146 apply Exists.intro
 exact ⟨by go_num,rfl⟩
theorem E4(l:List mA)(w wr:QI)(b s a0 k:Nat)(v:QJ)(q:List (QJ×QJ))(m:Int)(R U:QJ)(h p n:Int)(xy:Bool)(g:QF)(c:bF)(M O P Q:QK)(V X Y Z:Nat)(d K0:Act->QI->Prop)(a:Act)(hF:kc l (S ⟨b,s,N⟩) a0 w R U k v a)(o:Am l w wr b s a0 k v q m R U h p n xy g c M O P Q V X Y Z d)(hk:h=3\/h=4)(e1:q.length≠0):Code.wp prog (oE Tryz.f6) (Exit.then d (Exit.inBlock 0 (Exit.then K0 (bodyPost prog Tryz.f6 λe w'=>e=YX (YW YT)/\Y6 w.heap.size w w')))) a wr:=by
 iterate 146 (obtain ⟨_,hF⟩:=hF)
 obtain ⟨rfl,rfl⟩:=hF;have HS:=K o.st;have e0:=o.tk;have d9:=o.lt;have hl:=o.ll;have HO:=K o.ok;have HM:=K o.mm;have HK:=K o.next;have d4:(k:Int) < (l.length:Int):=by omega
 have mv:∀i u,i < 14->(aP h p n xy g c (L M c.xf.length V) (L O c.xe.length X) (L P c.x9.length Y) (L Q c.waits.length Z))[i]? =S u->wr.cell? ⟨b,s+k * 14+i,N⟩=S u:=λi u hi e=>(HS.out.below.cell (p:=⟨b,s+k * 14+i,N⟩) (by exact au (o.cell i u hi e))).trans (o.cell i u hi e);obtain ⟨c0,c1,c2,c3,c4,c5,c6,c7,c8,c9,b5,b6,b7,d0⟩:=Dw mv;obtain ⟨W1,r⟩:=QE (wr.alloc (YU (aP h p n xy g c (L M c.xf.length V) (L O c.xe.length X) (L P c.x9.length Y) (L Q c.waits.length Z)) 49));have B1:=QG r;have X1:=K (QH r);obtain ⟨KB,a1⟩:=QE (k * 2097152);have d7:KB<=137438953472:=by omega
 have b0:H (KB+2097152<=(k+1) * 2097152):=K (by omega);obtain ⟨VB,a2⟩:=QE (k * 1048576);have d8:VB<=68719476736:=by omega
 have b4:H (VB+1048576<=(k+1) * 1048576):=K (by omega);rw [a1,a2] at HS;have C:=K (HS.out.xo B1);have E:=K r;have d6:H (∀W,Y6 w.heap.size w W->W.cell? ⟨0,0,N⟩=S (I .i64 m)):=K (λW hW=>(hW.cell (by exact au HM.out)).trans HM.out);simp only [aP] at E;clear o mv r B1 HS HM a1 a2;obtain ⟨a5,d1,e5⟩:=mc C.out.all;subst e5;have t5:((q.length:Int) == 0)=F:=by rw [beq_eq_false_iff_ne];omega
 have e7:decide ((q.length:Int)=0)=F:=decide_eq_false (by omega);have A:=rK p (show 0 < q.length by omega);have B:=K (λW=>oU p q.length W HO.out.p (by omega) (by omega));obtain ⟨j,ej⟩:=QE (oT p q.length);rw [ej] at B A;have d5:(j:Int) < (q.length:Int):=by omega
 have z:H (HQ w W1.drew w.heap.size KB VB (L a5 q.length d1) q):=K (C.out.xo ((Below.refl _ _).drew));obtain ⟨own,a3,a7⟩:=z.out.get A;have HT:=K a3;obtain ⟨f,t,x,y⟩:=z.out.yF;have a8:=K t;have a9:=K x;have b2:=K y;clear a3 a7 t x y;obtain ⟨g5,d3,e5,s0,s1⟩:=DX z.out.all A;injection e5 with e5a _ e5c;subst e5a e5c;obtain ⟨px,py,ex,ey⟩:=HT.out.ptr;rw [ex] at s0 HT;rw [ey] at s1 HT;have G:W1.drew.heap[wr.heap.size]? =S (YU (aP h p n xy g c (L M c.xf.length V) (L O c.xe.length X) (L P c.x9.length Y) (L Q c.waits.length Z)) 49 (0,0)):=X1.out;obtain ⟨o0,o1,o2,o3,o4,o5,o6,o7,o8,o9,e2,e3,e4,e6⟩:=jn G;clear ej G ex ey;have b1:=K (OT VB own f w.heap.size KB (YV px) (YV py) h p n xy g c (L M c.xf.length V) (L O c.xe.length X) (L P c.x9.length Y) (L Q c.waits.length Z) W1.drew HT.out a8.out a9.out (by omega))
 rcases hk with rfl | rfl
 all_goals
  conv=>arg 2;whnf
  go_wp2_with fail
  rw [E.out];clear c0 c1 c2 c3 c4 c5 c6 c7 c8 c9 b5 b6 b7 d0
  go_region_law (first
   | (go_simp;go_at_call 12;refine (B.out _).mono ?_;rintro e w2 ⟨rfl,rfl⟩)
   | (go_simp;go_at_call 13;refine b1.out.mono ?_;rintro e w2 ⟨rfl,a6,a4⟩;have D:=K (b2.out w2 _ ⟨rfl,a6,a4⟩);clear a6 a4))
  all_goals
   go_wp2_with fail
   refine (D.out.still (by omega)).mono ?_;rintro e w9 ⟨rfl,d2⟩;have b3:=K (D.out.xo d2);go_wp2_with fail
   refine HK.out _ _ _ (q) ?_ (by omega) (b3.out.mono (by have:=b0.out;omega) (by have:=b4.out;omega));unfold kc
   iterate 146 apply Exists.intro
   exact ⟨by go_num,rfl⟩
theorem E6(l:List mA)(w wr:QI)(b r a3 k:Nat)(v:QJ)(o:List (QJ×QJ))(m:Int)(a1 a2:QJ)(g p n:Int)(O:Bool)(f:QF)(c:bF)(y z A B:QK)(C D E G:Nat)(d K0:Act->QI->Prop)(a:Act)(hF:kc l (S ⟨b,r,N⟩) a3 w a1 a2 k v a)(h:Am l w wr b r a3 k v o m a1 a2 g p n O f c y z A B C D E G d)(hk:g=5\/g=6\/g=7)(e1:o.length≠0):Code.wp prog (oE Tryz.f6) (Exit.then d (Exit.inBlock 0 (Exit.then K0 (bodyPost prog Tryz.f6 λe w'=>e=YX (YW YT)/\Y6 w.heap.size w w')))) a wr:=by
 iterate 146 (obtain ⟨_,hF⟩:=hF)
 obtain ⟨rfl,rfl⟩:=hF;have HS:=K h.st;have e0:=h.tk;have d9:=h.lt;have hl:=h.ll;have Q:=K h.ok;have HM:=K h.mm;have HK:=K h.next;have d4:(k:Int) < (l.length:Int):=by omega
 have mv:∀i u,i < 14->(aP g p n O f c (L y c.xf.length C) (L z c.xe.length D) (L A c.x9.length E) (L B c.waits.length G))[i]? =S u->wr.cell? ⟨b,r+k * 14+i,N⟩=S u:=λi u hi e=>(HS.out.below.cell (p:=⟨b,r+k * 14+i,N⟩) (by exact au (h.cell i u hi e))).trans (h.cell i u hi e);obtain ⟨c0,c1,c2,c3,c4,c5,c6,c7,c8,c9,b5,b6,b7,d0⟩:=Dw mv;obtain ⟨Z,q⟩:=QE (wr.alloc (YU (aP g p n O f c (L y c.xf.length C) (L z c.xe.length D) (L A c.x9.length E) (L B c.waits.length G)) 49));have B1:=QG q;have X1:=K (QH q);obtain ⟨KB,a4⟩:=QE (k * 2097152);have d7:KB<=137438953472:=by omega
 have b2:H (KB+2097152<=(k+1) * 2097152):=K (by omega);obtain ⟨P,a6⟩:=QE (k * 1048576);have d8:P<=68719476736:=by omega
 have b4:H (P+1048576<=(k+1) * 1048576):=K (by omega);rw [a4,a6] at HS;have U:=K (HS.out.xo B1);have Y:=K q;have d6:H (∀W,Y6 w.heap.size w W->W.cell? ⟨0,0,N⟩=S (I .i64 m)):=K (λW hW=>(hW.cell (by exact au HM.out)).trans HM.out);simp only [aP] at Y;clear h mv q B1 HS HM a4 a6;obtain ⟨a5,d1,e5⟩:=mc U.out.all;subst e5;have t5:((o.length:Int) == 0)=F:=by rw [beq_eq_false_iff_ne];omega
 have e7:decide ((o.length:Int)=0)=F:=decide_eq_false (by omega);have M:=rK p (show 0 < o.length by omega);have R:=K (λW=>oU p o.length W Q.out.p (by omega) (by omega));obtain ⟨j,ej⟩:=QE (oT p o.length);rw [ej] at R M;have d5:(j:Int) < (o.length:Int):=by omega
 have X:H (HQ w Z.drew w.heap.size KB P (L a5 o.length d1) o):=K (U.out.xo ((Below.refl _ _).drew));obtain ⟨own,a8,s⟩:=X.out.get M;have HT:=K a8;have x:=K s;clear a8 s;obtain ⟨g5,d3,e5,s0,s1⟩:=DX X.out.all M;injection e5 with e5a _ e5c;subst e5a e5c;obtain ⟨px,py,ex,ey⟩:=HT.out.ptr;rw [ex] at s0 HT x;rw [ey] at s1 HT x;have a0:Z.drew.heap[wr.heap.size]? =S (YU (aP g p n O f c (L y c.xf.length C) (L z c.xe.length D) (L A c.x9.length E) (L B c.waits.length G)) 49 (0,0)):=X1.out;obtain ⟨o0,o1,o2,o3,o4,o5,o6,o7,o8,o9,e2,e3,e4,e6⟩:=jn a0;clear ej a0 ex ey
 rcases hk with rfl | rfl | rfl;have t:=K (Bl P (YV px) (YV py) own p n O f c (L y c.xf.length C) (L z c.xe.length D) (L A c.x9.length E) (L B c.waits.length G) Z.drew HT.out Q.out.n)
 rotate_left
 have t:=K (Bm P (YV px) (YV py) own p n O f c (L y c.xf.length C) (L z c.xe.length D) (L A c.x9.length E) (L B c.waits.length G) Z.drew HT.out Q.out.n Q.out.len (by omega))
 rotate_left
 have t:=K (Gz P (YV px) (YV py) own p n O f c (L y c.xf.length C) (L z c.xe.length D) (L A c.x9.length E) (L B c.waits.length G) Z.drew HT.out Q.out.n)
 rotate_left
 all_goals
  conv=>arg 2;whnf
  go_wp2_with fail
  rw [Y.out];clear c0 c1 c2 c3 c4 c5 c6 c7 c8 c9 b5 b6 b7 d0
  go_region_law (first
   | (go_simp;go_at_call 12;refine (R.out _).mono ?_;rintro e w2 ⟨rfl,rfl⟩)
   | (go_simp;go_at_call 14;refine t.out.mono ?_;rintro e w2 ⟨rfl,b1,a7,b0,a9⟩;have V:=K (x.out w2 _ b1 (by omega) a7 b0 a9);clear a7 b0 a9))
  all_goals
   go_wp2_with fail
   refine (V.out.still (by omega)).mono ?_;rintro e w9 ⟨rfl,d2⟩;have b3:=K (V.out.xo d2);go_wp2_with fail
   refine HK.out _ _ _ (o) ?_ (by omega) (b3.out.mono (by have:=b2.out;omega) (by have:=b4.out;omega));unfold kc
   iterate 146 apply Exists.intro
   exact ⟨by go_num,rfl⟩
end Go.Proofs.YtponhohdpophlaaGreatDoor
