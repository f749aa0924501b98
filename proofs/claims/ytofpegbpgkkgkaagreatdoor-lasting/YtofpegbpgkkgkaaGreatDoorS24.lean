import Derived.Deep.SlicePairs
import Derived.SizedLaws
import Derived.Test.YtofpegbpgkkgkaaGreatDoorS22
import Derived.Test.YtofpegbpgkkgkaaGreatDoorRows
import Derived.Lib.LaidU8
namespace Go.Proofs.YtofpegbpgkkgkaaGreatDoor
set_option maxHeartbeats 8000000
set_option maxRecDepth 1000000
open Go.ChangeShapes Go.WideShapes Go.RowKit Go.Deep
section
variable {H:Type} {enc:TypeId×Value→H} {w:World} {base:Nat} {spare:Nat→Bool} {held:Bool}
theorem Ir:reachBytes=140737488351232:=by decide
theorem EG:Tryz.prog.cellsOf 3=1:=by kernel_rfl
theorem zx {P:Program} {t e:TypeId} {a c:List (DataW H)} (f:P.underlying t=some (.slice e)) (b:((DataW.slice a c).weights P t).all (·≤reachBytes)=true):a.length * P.bytesOf e≤140737488351232:=by
 simp only [DataW.weights,f,List.all_cons,Bool.and_eq_true,decide_eq_true_eq] at b;have d:=b.1;rw [Ir] at d;have g:a.length * P.bytesOf e≤(a.length+c.length) * P.bytesOf e:=Nat.mul_le_mul_right _ (by omega);omega
theorem J4 {a:Addr} {c d h:Nat} {i:List Value} (k:0 < h) (q:i.length=c * h) (f:c≤d) (n:∀j:Nat,j < c * h→w.cell? (a.add j)=i[j]?):bg w (.slice (some a) c d) c h i:=by
 refine ⟨q,?_⟩
 rcases Nat.eq_zero_or_pos c with rfl | r
 ·exact .inl ⟨rfl,_,_,rfl⟩
 ·obtain ⟨b,l,g⟩:=a;have o:0 < c * h:=Nat.mul_pos r k;have m:=n 0 o;rw [List.getElem?_eq_getElem (by omega)] at m;have e:g=none:=by simpa [Addr.add] using World.cell?_spot m
  subst e;exact .inr ⟨b,l,d,rfl,f,fun j p=>by rw [←add_plain];exact n j p⟩
theorem rD {P:Program} {b:List TypeId} {a:List (DataW H)} (h:(DataW.weightsEach P b a).all (·≤reachBytes)=true) {j:Nat} {t:TypeId} {d:DataW H} (f:b[j]? =some t) (c:a[j]? =some d):(d.weights P t).all (·≤reachBytes)=true:=
 List.all_eq_true.2 fun n e=>List.all_eq_true.1 h n (DataW.weights_mem_each f c n e)
end
open Go.RowKit
theorem FI:bw []=(⟨[],0⟩,0):=by kernel_rfl
theorem kl.rowM {w:World} {v:Value} {l:List UInt8} (h:kl w v l):dT w v l:=by
 obtain ⟨g,a,b,z,e,k,_,c,d,f,i,j⟩:=h;exact .inr ⟨g,a,b,z,e,k,.inr c,d,f,i,j⟩
def yt (c:bX) (l:List UInt8) (w:World) (e:Ending) (w':World):Prop:=
 ∃(K:Kn) (E:Nat→Prop) (pp pb mb:Nat) (q:Nat→Nat) (vr:Value),K.tk= .pointer none∧e= .returned (.tuple #[.pointer (some ⟨pp,0,none⟩),.int .i64 0])∧dR E pp pb mb c w' q vr (bw l).1 (l.take (bw l).2) (.slice none 0 0) []∧(bw l).1.Ok∧(∀k,E k→yX k∨w.heap.size≤k)∧(∀k,an w' pb mb q vr (bw l).1 k→w.heap.size≤k)∧Below w.heap.size w w'
theorem qU (c:bX) (G H I J:Value) (l:List UInt8) (w:World) (h:jZ w c G H I J) (hz:xt c) (d:ij c=true) (hg:iR w) (hl:l.length≤536870912):
  Calls Tryz.prog 18 #[.agg #[.string c.host,G,H,I,.int .i64 c.most,.int .i64 c.size,J,.int .i64 c.life,.int .i64 c.room],.string (bs l)] w (yt c l w):=by
 obtain ⟨M,t⟩:∃M:World,w.alloc (.cells #[.string c.host,G,H,I,.int .i64 c.most,.int .i64 c.size,J,.int .i64 c.life,.int .i64 c.room] 30)=M:=⟨_,rfl⟩;have Q:Below w.heap.size w M:=by rw [←t];exact (Below.refl _ _).alloc (Nat.le_refl _) _
 obtain ⟨m,hm⟩:=hg.len;have b0:=aC hm;have m0:M.cell? ⟨0,0,none⟩=some (.int .i64 m):=(Q.cell (by exact b0)).trans hm;have a2:=Lib.hid (EH c G H I J m M (h.below Q) hz m0);have R:=Lib.hid Q;have HM:=Lib.hid m0;have HG:=Lib.hid hg;have a7:=Lib.hid t;have a8:Hid (M.heap[w.heap.size]? =some (.cells #[.string c.host,G,H,I,.int .i64 c.most,.int .i64 c.size,J,.int .i64 c.life,.int .i64 c.room] 30 (0,0))):=Lib.hid (by rw [←t];exact heap_alloc_new w _);have a1:=Lib.hid (h.below Q);have a4:=Lib.hid d;clear Q m0 t h hm hg;go_enter Tryz.func18,Tryz.ntmps18;go_wp2_with fail
 rw [a7.out];refine a2.out.mono ?_;intro e j hE;obtain ⟨he,n⟩:=hE;subst he;have B2:=Lib.hid (R.out.trans (n.mono R.out.size));rw [d];simp only [JX];have m2:j.cell? ⟨0,0,none⟩=some (.int .i64 m):=(n.cell (by exact aC HM.out)).trans HM.out;have T:=Lib.hid m2;have p:=ae n a8.out;have y0:j.cell? ⟨w.heap.size,0,none⟩=some (.string c.host):=by rw [Lib.cell_of_heap p];rfl
 have y1:j.cell? ⟨w.heap.size,1,none⟩=some G:=by rw [Lib.cell_of_heap p];rfl
 have y2:j.cell? ⟨w.heap.size,2,none⟩=some H:=by rw [Lib.cell_of_heap p];rfl
 have y3:j.cell? ⟨w.heap.size,3,none⟩=some I:=by rw [Lib.cell_of_heap p];rfl
 have y4:j.cell? ⟨w.heap.size,4,none⟩=some (.int .i64 c.most):=by rw [Lib.cell_of_heap p];rfl
 have y5:j.cell? ⟨w.heap.size,5,none⟩=some (.int .i64 c.size):=by rw [Lib.cell_of_heap p];rfl
 have y6:j.cell? ⟨w.heap.size,6,none⟩=some J:=by rw [Lib.cell_of_heap p];rfl
 have y7:j.cell? ⟨w.heap.size,7,none⟩=some (.int .i64 c.life):=by rw [Lib.cell_of_heap p];rfl
 have y8:j.cell? ⟨w.heap.size,8,none⟩=some (.int .i64 c.room):=by rw [Lib.cell_of_heap p];rfl
 have S:=Lib.hid (Gw c G H I J j (a1.out.below n) (kg d));have b3:w.heap.size≤j.heap.size:=B2.out.size;clear d n m2 p;go_wp2_with fail
 refine S.out.mono ?_;rintro e P ⟨uD,uN,uU,uW,rfl,f,F,X⟩;obtain ⟨aD,cD,eD⟩:=aE f.1;obtain ⟨aN,cN,eN⟩:=aE f.2.1;obtain ⟨aU,cU,eU⟩:=aE f.2.2.1;obtain ⟨aW,cW,eW⟩:=aE f.2.2.2;subst eD eN eU eW;have a6:=Lib.hid (Ab l m P hl ((F.cell (by exact aC T.out)).trans T.out));have B3:=Lib.hid (B2.out.trans (F.mono b3));have b4:w.heap.size≤P.heap.size:=B3.out.size;have a0:=Lib.hid f;have s:=Lib.hid X;clear F f S y0 y1 y2 y3 y4 y5 y6 y7 y8 X;go_wp2_with fail
 refine a6.out.mono ?_;rintro e a ⟨Z,mb,q,vr,rfl,hA,hO,hR,hG,W⟩;have L:=Lib.hid hA;have a5:=Lib.hid hO;have HR:=Lib.hid hR.rowM;have a3:=Lib.hid hG;have E:=Lib.hid W;clear hA hO hR W hG;go_wp2_with fail
 go_ret2
 obtain ⟨C,O⟩:∃C:Array Value,#[.string c.host,.slice aD c.doms.length cD,.slice aN c.nets.length cN,.slice aU c.users.length cU,.int .i64 c.most,.int .i64 c.size,.slice aW c.waits.length cW,.int .i64 c.life,.int .i64 c.room,.pointer (some ⟨Z,0,none⟩),.slice none 0 0,.pointer none]=C:=⟨_,rfl⟩;rw [O];have X5:=heap_alloc_new a (.cells C 88);have u:Below a.heap.size a (a.alloc (.cells C 88)):=(Below.refl _ _).alloc (Nat.le_refl _) _;have b6:(a.alloc (.cells C 88)).heap.size=a.heap.size+1:=by simp
 obtain ⟨U,a9⟩:∃U:World,a.alloc (.cells C 88)=U:=⟨_,rfl⟩;rw [a9] at X5 u b6 ⊢;have b5:P.heap.size≤a.heap.size:=E.out.size;have B5:Below w.heap.size w U:=(B3.out.trans (E.out.mono b4)).trans (u.mono (by omega));have V:Below P.heap.size P U:=E.out.trans (u.mono b5)
 obtain ⟨D,hD⟩:∃D:Nat→Int×Int,∀i,i∈(bw l).1.live→∃v,dL a (q i) ((bw l).1.mailOf i).time ((bw l).1.mailOf i).frm v ((bw l).1.mailOf i).body (D i):=Classical.axiomOfChoice (r:=fun (i:Nat) (x:Int×Int)=>i∈(bw l).1.live→∃v,dL a (q i) ((bw l).1.mailOf i).time ((bw l).1.mailOf i).frm v ((bw l).1.mailOf i).body x) (fun i=>by
  by_cases A:i∈(bw l).1.live
  ·obtain ⟨_,v,x,b,_⟩:=L.out.mail i A;exact ⟨x,fun _=>⟨v,b⟩⟩
  ·exact ⟨(0,0),fun e=>absurd e A⟩)
 let K:Kn:=⟨D,(bw l).1.items.length,.pointer none⟩
 have y:fv a Z mb q vr (bw l).1 (l.take (bw l).2):=⟨L.out.mono (Nat.zero_le _),HR.out,fun i A=>by
  obtain ⟨v,b⟩:=hD i A;have e:bV (bw l).1 i=D i:=if_pos (bq A)
  exact ⟨_,b,by rw [e];rfl,by rw [e];rfl⟩,Nat.le_refl _⟩
 have B:∀k,an a Z mb q vr (bw l).1 k→P.heap.size≤k∧k < a.heap.size:=fun k e=>⟨by
  rcases e with (e | e | ⟨i,A,e | ⟨D,z,N,Y⟩⟩) | e
  ·rw [e];exact L.out.pbb
  ·rw [e];exact L.out.mbb
  ·rw [e];exact (L.out.mail i A).1
  ·obtain ⟨_,v,x,b,cc⟩:=L.out.mail i A;unfold dL at b;rw [b] at N;injection N with N;injection N with N;rw [←N] at Y;have Y:v.ownBlock=some k:=Y;exact (cc.lt k Y).1
  ·exact a3.out k e,an.lt y e⟩
 obtain ⟨b1,b2⟩:=y.chg (aH.below u:aH (fun _=>False) a U) (fun _ _ e=>e);have o:∀k,yX k→k < w.heap.size:=fun k e=>HG.out.lt e;refine ⟨K,fun k=>yX k∨k=a.heap.size∨(Value.slice aD c.doms.length cD).ownBlock=some k∨(Value.slice aN c.nets.length cN).ownBlock=some k∨(Value.slice aU c.users.length cU).ownBlock=some k∨(Value.slice aW c.waits.length cW).ownBlock=some k,a.heap.size,Z,mb,q,vr,rfl,rfl,⟨⟨_,_,_,_,⟨⟨C,X5,by rw [←O];rfl⟩,a0.out.below V,a4.out⟩,fun k e=>⟨.inr (.inr e),by have:=s.out k e;omega⟩⟩,HG.out.below B5,fun k e=> .inl e,fun e=>by have:=o _ e;omega,.inr (.inl rfl),fun k e=>?_,⟨C,X5,by rw [←O];rfl,by rw [←O];rfl,by rw [←O];rfl,by rw [←O];rfl⟩,b1,World.ownsRow_nil _ _ _ _,fun k e x=>?_,fun g e=>by cases e⟩,a5.out,fun k e=>?_,fun k e=>by have:=B k (b2 k e);omega,B5⟩
 ·rcases e with e | e | e
  ·have:=o k e;omega
  ·omega
  ·have:=s.out k e;omega
 ·have hk:=B k (b2 k x)
  rcases e with e | e | e
  ·have:=o k e;omega
  ·omega
  ·have:=s.out k e;omega
 ·rcases e with e | e | e
  ·exact .inl e
  ·exact .inr (by omega)
  ·exact .inr (by have:=s.out k e;omega)
section
variable {E own:Nat→Prop} {pp gb:Nat} {c:bX} {w:World} {vS vM:Value} {sl:List (ca×Value)} {ml:List (aX×Value)} {g g':GS}
theorem JZ (g:GS) (h:g.bad=false):({g with bad:=false}:GS)=g:=by
 cases g
 cases h
 rfl
theorem Df (a8:dX c) (h:gX E own pp gb c w vS vM sl ml g) (hi:hJ g) (u J j:Int) (h1: -9223372036854775808≤u∧u≤9223372036854775807) (h2: -9223372036854775808≤J∧J≤9223372036854775807) (h3: -9223372036854775808≤j∧j≤9223372036854775807) (hk:cM u 12=6):
  Calls Tryz.prog 9 #[.pointer (some ⟨gb,0,none⟩),.agg #[.int .i64 u,.int .i64 J,.int .i64 j]] w (jG E own pp gb c w vS vM g):=by
 obtain ⟨p,x⟩:∃W:World,w.alloc (.cells #[.int .i64 u,.int .i64 J,.int .i64 j] 34)=W:=⟨_,rfl⟩;have M:p.heap[w.heap.size]? =some (.cells #[.int .i64 u,.int .i64 J,.int .i64 j] 34 (0,0)):=by rw [←x];exact heap_alloc_new w _
 have B0:Below w.heap.size w p:=by rw [←x];exact (Below.refl _ _).alloc (Nat.le_refl _) _
 have y:¬(w.heap.size=pp∨own w.heap.size∨fX gb vS vM w.heap.size):=fun e=>by
  rcases e with e | e | e
  ·have:=h.post.elt h.post.epp;omega
  ·have:=h.post.lt e;omega
  ·have:=(h.off _ e).1;omega
 have G0:=h.below B0;have I:sl.length≤100:=by rw [h.slen,hi.len];exact h.post.len
 obtain ⟨K,eK⟩:∃K,cM u 12=K:=⟨_,rfl⟩;have bK:=dt u (n:=12) (by decide);rw [eK] at bK hk;have S:Hid (∀W:World,Calls Tryz.prog 20 #[.int .i64 u,.int .i64 12] W fun e r=>e= .returned (.int .i64 K)∧W=r):=Lib.hid (fun W=>by have:=bZ u 12 W h1.1 h1.2 (by decide) (by decide);rw [eK] at this;exact this)
 have PV:∀(m:Int),0 < m→m≤1000→∃a:Nat,(a:Int) < m∧∀W:World,Calls Tryz.prog 20 #[.int .i64 j,.int .i64 m] W fun e r=>e= .returned (.int .i64 (a:Int))∧W=r:=fun m hm d2=>by
  have hb:=dt j hm;refine ⟨(cM j m).toNat,by omega,fun W=>?_⟩
  have:=bZ j m W h3.1 h3.2 hm (by omega);rw [show ((cM j m).toNat:Int)=cM j m by omega]
  exact this
 have c9:=Lib.hid (iz G0 J h2.1 h2.2 I);have d:=Lib.hid G0;have f:=Lib.hid hi;have Q:=Lib.hid B0;have d0:=Lib.hid M;have V:=Lib.hid x;have b5:=Lib.hid y;have b6:=Lib.hid a8;have z0:w.heap.size < p.heap.size:=ah M;have o0:p.cell? ⟨w.heap.size,0,none⟩=some (.int .i64 u):=by rw [Lib.cell_of_heap M];rfl
 have o1:p.cell? ⟨w.heap.size,1,none⟩=some (.int .i64 J):=by rw [Lib.cell_of_heap M];rfl
 have o2:p.cell? ⟨w.heap.size,2,none⟩=some (.int .i64 j):=by rw [Lib.cell_of_heap M];rfl
 have b7:=Lib.hid o2;have c0:p.cell? ⟨gb,0,none⟩=some (.pointer (some ⟨pp,0,none⟩)):=G0.cells.1;have F:=Lib.hid I;have b8:=Lib.hid PV;clear h hi a8 h1 h2 h3 M B0 x G0 y eK I PV;subst hk;obtain ⟨a,ha,a9⟩:=b8.out 1000 (by decide) (by decide);have D:=Lib.hid a9;obtain ⟨G,cs,eS⟩:=aE (aF d.out.srow);subst eS;have s:=d.out.below ((Below.refl _ p).drew);have R:=Lib.hid s;have t:=f.out.len;have i:=d.out.slen;have q:=d.out.cells.2.1;have a0:=d.out.cells.2.2.2.2.1;have a7:=f.out.bad;rw [a7] at a0;have d1:gb < p.heap.size:=aC c0;clear a9 bK
 by_cases hl:g.l.length < 100
 ·obtain ⟨L,eL⟩:∃L,g.l.length=L:=⟨_,rfl⟩
  have C:Hid (Calls Tryz.prog 13 #[.pointer (some ⟨pp,0,none⟩),.int .i64 (a:Int)] p.drew fun e r=>e= .returned (.tuple #[.int .i64 (L:Int),.string (bs (mX c)),.int .i64 0])∧∃b,gX E b pp gb c r (.slice G sl.length cs) vM sl ml {g with l:=g.l++[some (dI c (a:Int))]}∧(∀k,b k→own k∨p.drew.heap.size≤k)∧aH (fun k=>k=pp∨own k) p.drew r∧r.cell? ⟨w.heap.size,2,none⟩=some (.int .i64 j)):=Lib.hid (by
   have hh:=s.post.conn (a:Int) (by omega) (by omega) hl;rw [eL] at hh;refine hh.mono ?_;rintro e B ⟨rfl,c8⟩;obtain ⟨b,v,a2,Y⟩:=R.out.call c8 rfl;have c7:¬(w.heap.size=pp∨own w.heap.size):=fun e=>b5.out (e.imp id .inl)
   exact ⟨rfl,b,v,a2,Y,(World.cell?_of_block (Y.block w.heap.size z0 c7)).trans b7.out⟩)
  clear s;have HL:Hid (sl.length=L):=Lib.hid (by rw [i,t,eL]);clear q a0 eL t i;go_enter Tryz.func9,Tryz.ntmps9;go_wp2_with fail
  rw [V.out];refine (S.out _).mono ?_;rintro e w1 ⟨rfl,rfl⟩;go_wp2_with fail
  go_region_held3 (fun r=>r.cell? ⟨gb,0,none⟩=some (.pointer (some ⟨pp,0,none⟩))∧r.cell? ⟨w.heap.size,2,none⟩=some (.int .i64 j))
   (first | exact S2 | exact ⟨c0,o2⟩)
   (first
    | (go_at_call 20;refine (D.out _).mono ?_;rintro e wx ⟨rfl,rfl⟩)
    | (go_at_call 13;refine C.out.mono ?_;rintro e B ⟨rfl,b,v,a2,Y,p2⟩;have S2:=And.intro v.cells.1 p2;have P:=Lib.hid v;have b3:=Lib.hid a2;have b4:=Lib.hid Y;clear v a2 Y))
  have v:=P.out;have q:=v.cells.2.1;have X:=v.below ((Below.refl _ B).drew);obtain ⟨gm,A,W3,r1,r2,r3,r4,r5,r6⟩:=X.appS (a:Int) (by have:=F.out;omega);have c3:Hid ((Builtin.append_ #[39,39] 39 #[.slice G sl.length cs,.slice (some ⟨B.heap.size,0,none⟩) 1 1]).run Tryz.prog (B.alloc (.cells #[.int .i64 (a:Int),.bool false,.bool false,.bool false,.slice none 0 0] 51)).drew= .ok (.slice (some ⟨gm,0,none⟩) (sl.length+1) A) W3):=Lib.hid r1;have Z:∀o:Obj,(B.alloc o).cell? ⟨gb,10,none⟩=some (.slice G sl.length cs):=fun o=>(((Below.refl _ B).alloc (Nat.le_refl _) o).cell (aC q)).trans q;have T:=Lib.hid r4;have U:=Lib.hid r5;have c4:=Lib.hid r6;clear v X r1 r4 r5 r6 P;go_wp2_with fail
  go_region_law (first
   | (refine gD rfl _ _ 39 39 rfl _ _ _ W3 rfl rfl c3.out ?_)
   | (go_simp;go_at_call 20;refine (D.out _).mono ?_;rintro e wx ⟨rfl,rfl⟩;dsimp only))
  all_goals
   obtain ⟨W4,a6⟩:∃W:World,W3.setCell ⟨gb,10,none⟩ (.slice (some ⟨gm,0,none⟩) (sl.length+1) A)=W:=⟨_,rfl⟩;have O:=T.out;have q5:=U.out;rw [a6] at O q5 ⊢;have c5:=O.cells.2.1;have c6:W4.cell? ⟨gb,13,none⟩=some (.bool false):=by rw [O.cells.2.2.2.2.1,←f.out.bad]
   have d3:=O.cells.2.2.2.2.2 13;obtain ⟨N2,a4⟩:∃N,sl.length+1=N:=⟨_,rfl⟩;rw [a4] at c5
   have hw:IntKind.i64.wrap ((N2:Int) - 1)=(L:Int):=by
    have h1:=HL.out;have h2:=F.out;rw [IntKind.wrap_i64];omega
   have c1:=Lib.hid O;have c2:=Lib.hid q5;clear O q5 a6 T U r2 r3 q Z p2 a4;go_wp2_with fail
   refine bodyPost_end (results_none rfl _ _ _) rfl ?_;obtain ⟨H,b2⟩:=c1.out.putB false;have b0:hU c g (Ee c g (a:Int)):= .conn g (a:Int) (by omega) (by omega) hl;have H:=H.same (JZ (Ee c g (a:Int)) f.out.bad)
   exact ⟨rfl,1,Ee c g (a:Int),by omega,fy.one b0,d.out.step b6.out f.out b0,cX.from Q.out (cX.from ((Below.refl _ p).drew) (cX.called b3.out b4.out (cX.from ((Below.refl _ B).drew) (cX.turned c2.out (fun k e=>by
    rcases e with e | e | e
    ·exact .inl (.inl e)
    ·have e:gm=k:=by simpa [Value.ownBlock] using e
     rw [←e];exact c4.out.imp (fun z=> .inr (.inl z)) id
    ·exact .inl (.inr (.inr e))) (cX.turned b2 (fun k e=> .inl e) (cX.refl H))))))⟩
 ·have C:=Lib.hid (s.post.connNo (a:Int) hl)
  have a5:sl.length=100:=by
   have h1:=F.out;omega
  rw [a5] at q;have c6:=d.out.cells.2.2.2.2.2 13;clear s hl t i;go_enter Tryz.func9,Tryz.ntmps9;go_wp2_with fail
  rw [V.out];refine (S.out _).mono ?_;rintro e w1 ⟨rfl,rfl⟩;go_wp2_with fail
  go_region_held3 (fun r=>r.cell? ⟨gb,0,none⟩=some (.pointer (some ⟨pp,0,none⟩))∧r.cell? ⟨w.heap.size,2,none⟩=some (.int .i64 j))
   (exact ⟨c0,o2⟩)
   (first
    | (go_at_call 20;refine (D.out _).mono ?_;rintro e wx ⟨rfl,rfl⟩)
    | (go_at_call 13;refine C.out.mono ?_;rintro e B ⟨rfl,rfl⟩))
  go_wp2_with fail
  refine bodyPost_end (results_none rfl _ _ _) rfl ?_;obtain ⟨H,b2⟩:=R.out.putB false;have H:=H.same (show _=g by rw [←f.out.bad]);exact ⟨rfl,0,g,by omega,.nil g,f.out,cX.from Q.out (cX.from ((Below.refl _ p).drew) (cX.turned b2 (fun k e=> .inl e) (cX.refl H)))⟩
end
def dD (a b d:Int):bX where
 host:=bs [109,120,46,111,114,103]
 doms:=[bs [97,46,111,114,103],bs [66,46,110,101,116]]
 nets:=[(256,24)]
 users:=[(bs [117],bs [119]),(bs [118],bs [108,111,110,103,32,119,111,114,100])]
 most:=1+a
 size:=1+b
 waits:=[1,5,2]
 life:=1+d
 room:=1000000
def lS (x y z:Int):bX:=dD (cM x 10) (cM y 1000) (cM z 60)
theorem oW {a b d:Int} (g:0≤a∧a < 10) (h:0≤b∧b < 1000) (i:0≤d∧d < 60):ij (dD a b d)=true:=by
 have c:(jj (dD a b d).host.data.toList && oq (dD a b d).doms && nr (dD a b d).nets && kG (dD a b d).users)=true:=by kernel_rfl
 have e:kI (dD a b d).waits=true:=by kernel_rfl
 have f:cF (dD a b d).room 0 1000000=true:=by kernel_rfl
 have w:∀n x y:Int,x≤n→n≤y→cF n x y=true:=fun n x y c e=>by unfold cF;rw [decide_eq_true c,decide_eq_true e];rfl
 unfold ij;rw [c,e,f,w (dD a b d).most 1 10 (by show 1≤1+a;omega) (by show 1+a≤10;omega),w (dD a b d).size 1 1000 (by show 1≤1+b;omega) (by show 1+b≤1000;omega),w (dD a b d).life 1 1000000000 (by show 1≤1+d;omega) (by show 1+d≤1000000000;omega)];rfl
def Ks:Array Value:=#[.string ⟨#[]⟩,.slice none 0 0,.slice none 0 0,.slice none 0 0,.int .i64 0,.int .i64 0,.slice none 0 0,.int .i64 0,.int .i64 0]
theorem vE {w:World} {b n c:Nat} {a:Array Value} {t:TypeId} {z:Nat×Nat} (h:w.heap[b]? =some (.cells a t z)) (d:a.size=n * c):bg w (.slice (some ⟨b,0,none⟩) n n) n c a.toList:=by
 refine ⟨by simpa using d,.inr ⟨b,0,n,rfl,Nat.le_refl _,fun j e=>?_⟩⟩
 rw [Nat.zero_add,Lib.cell_of_heap h,Array.getElem?_toList]
theorem zj (x y z:Int) (w:World) (hx: -9223372036854775808≤x∧x≤9223372036854775807) (hy: -9223372036854775808≤y∧y≤9223372036854775807) (hz: -9223372036854775808≤z∧z≤9223372036854775807):
  Calls Tryz.prog 8 #[.int .i64 x,.int .i64 y,.int .i64 z] w fun e A=>∃vD vN vU vW,e= .returned (.agg #[.string (lS x y z).host,vD,vN,vU,.int .i64 (lS x y z).most,.int .i64 (lS x y z).size,vW,.int .i64 (lS x y z).life,.int .i64 (lS x y z).room])∧jZ A (lS x y z) vD vN vU vW∧Below w.heap.size w A:=by
 obtain ⟨a,Q⟩:∃a,cM x 10=a:=⟨_,rfl⟩;obtain ⟨b,R⟩:∃b,cM y 1000=b:=⟨_,rfl⟩;obtain ⟨d,S⟩:∃d,cM z 60=d:=⟨_,rfl⟩;have ba:=dt x (n:=10) (by decide);have bb:=dt y (n:=1000) (by decide);have bd:=dt z (n:=60) (by decide);rw [Q] at ba;rw [R] at bb;rw [S] at bd;have P:lS x y z=dD a b d:=by unfold lS;rw [Q,R,S]
 rw [P];have w1:IntKind.i64.wrap (1+a)=1+a:=by rw [IntKind.wrap_i64];omega
 have w2:IntKind.i64.wrap (1+b)=1+b:=by rw [IntKind.wrap_i64];omega
 have w3:IntKind.i64.wrap (1+d)=1+d:=by rw [IntKind.wrap_i64];omega
 have U:Hid (∀W:World,Calls Tryz.prog 20 #[.int .i64 x,.int .i64 10] W fun e A=>e= .returned (.int .i64 a)∧W=A):=Lib.hid (fun W=>by have:=bZ x 10 W hx.1 hx.2 (by decide) (by decide);rw [Q] at this;exact this);have V:Hid (∀W:World,Calls Tryz.prog 20 #[.int .i64 y,.int .i64 1000] W fun e A=>e= .returned (.int .i64 b)∧W=A):=Lib.hid (fun W=>by have:=bZ y 1000 W hy.1 hy.2 (by decide) (by decide);rw [R] at this;exact this);have X:Hid (∀W:World,Calls Tryz.prog 20 #[.int .i64 z,.int .i64 60] W fun e A=>e= .returned (.int .i64 d)∧W=A):=Lib.hid (fun W=>by have:=bZ z 60 W hz.1 hz.2 (by decide) (by decide);rw [S] at this;exact this);clear Q R S P ba bb bd hx hy hz;go_enter Tryz.func8,Tryz.ntmps8;go_wp2_with fail
 obtain ⟨r,i⟩:∃W:World,w.alloc (.cells #[.string ⟨#[]⟩,.slice none 0 0,.slice none 0 0,.slice none 0 0,.int .i64 0,.int .i64 0,.slice none 0 0,.int .i64 0,.int .i64 0] 30)=W:=⟨_,rfl⟩;have za:r.heap.size=w.heap.size+1:=by rw [←i];simp
 have xa:r.heap[w.heap.size]? =some (.cells Ks 30 (0,0)):=by rw [←i];exact heap_alloc_new w _
 have M:Below w.heap.size w r:=by rw [←i];exact (Below.refl _ _).alloc (Nat.le_refl _) _
 rw [i];obtain ⟨o,k⟩:∃W:World,r.alloc (.cells #[.string ⟨#[97,46,111,114,103]⟩,.string ⟨#[66,46,110,101,116]⟩] 9)=W:=⟨_,rfl⟩;have zb:o.heap.size=w.heap.size+2:=by rw [←k];simp [za]
 have N:Below r.heap.size r o:=by rw [←k];exact (Below.refl _ _).alloc (Nat.le_refl _) _
 have xb:o.heap[w.heap.size+1]? =some (.cells #[.string ⟨#[97,46,111,114,103]⟩,.string ⟨#[66,46,110,101,116]⟩] 9 (0,0)):=by rw [←k,←za];exact heap_alloc_new r _
 rw [k];obtain ⟨u,l⟩:∃W:World,o.alloc (.cells #[.int .i64 256,.int .i64 24] 77)=W:=⟨_,rfl⟩;have zc:u.heap.size=w.heap.size+3:=by rw [←l];simp [zb]
 have Z:Below o.heap.size o u:=by rw [←l];exact (Below.refl _ _).alloc (Nat.le_refl _) _
 have xc:u.heap[w.heap.size+1+1]? =some (.cells #[.int .i64 256,.int .i64 24] 77 (0,0)):=by rw [←l,show w.heap.size+1+1=o.heap.size by omega];exact heap_alloc_new o _
 rw [l];obtain ⟨p,m⟩:∃W:World,u.alloc (.cells #[.string ⟨#[117]⟩,.string ⟨#[119]⟩,.string ⟨#[118]⟩,.string ⟨#[108,111,110,103,32,119,111,114,100]⟩] 79)=W:=⟨_,rfl⟩;have zd:p.heap.size=w.heap.size+4:=by rw [←m];simp [zc]
 have f:Below u.heap.size u p:=by rw [←m];exact (Below.refl _ _).alloc (Nat.le_refl _) _
 have xd:p.heap[w.heap.size+1+1+1]? =some (.cells #[.string ⟨#[117]⟩,.string ⟨#[119]⟩,.string ⟨#[118]⟩,.string ⟨#[108,111,110,103,32,119,111,114,100]⟩] 79 (0,0)):=by rw [←m,show w.heap.size+1+1+1=u.heap.size by omega];exact heap_alloc_new u _
 rw [m];have B:Below r.heap.size r p:=(N.trans (Z.mono (by omega))).trans (f.mono (by omega));have O:Below o.heap.size o p:=Z.trans (f.mono (by omega));have D:=Lib.hid (ft B xa);have F:=Lib.hid (ft O xb);have H:=Lib.hid (ft f xc);have J:=Lib.hid xd;have C:=Lib.hid (M.trans (B.mono (by omega)));clear i k l m za xa M zb xb N zc Z xc f xd B O;refine (U.out _).mono ?_;rintro e w1 ⟨rfl,rfl⟩;go_wp2_with fail
 refine (V.out _).mono ?_;rintro e w1 ⟨rfl,rfl⟩;go_wp2_with fail
 obtain ⟨c,s⟩:∃W:World,p.alloc (.cells #[.int .i64 1,.int .i64 5,.int .i64 2] 3)=W:=⟨_,rfl⟩;have be:Below p.heap.size p c:=by rw [←s];exact (Below.refl _ _).alloc (Nat.le_refl _) _
 have xe:c.heap[p.heap.size]? =some (.cells #[.int .i64 1,.int .i64 5,.int .i64 2] 3 (0,0)):=by rw [←s];exact heap_alloc_new p _
 rw [s];refine (X.out _).mono ?_;rintro e w1 ⟨rfl,rfl⟩;have g:=ft be D.out;have E:=Lib.hid g;have G:=Lib.hid (ft be F.out);have I:=Lib.hid (ft be H.out);have K:=Lib.hid (ft be J.out);have Y:=Lib.hid xe;have T:=Lib.hid (C.out.trans (be.mono (by omega)));have m0:c.cell? ⟨w.heap.size,0,none⟩=some (.string ⟨#[]⟩):=by rw [Lib.cell_of_heap g];rfl
 have m1:c.cell? ⟨w.heap.size,1,none⟩=some (.slice none 0 0):=by rw [Lib.cell_of_heap g];rfl
 have m2:c.cell? ⟨w.heap.size,2,none⟩=some (.slice none 0 0):=by rw [Lib.cell_of_heap g];rfl
 have m3:c.cell? ⟨w.heap.size,3,none⟩=some (.slice none 0 0):=by rw [Lib.cell_of_heap g];rfl
 have m4:c.cell? ⟨w.heap.size,4,none⟩=some (.int .i64 0):=by rw [Lib.cell_of_heap g];rfl
 have m5:c.cell? ⟨w.heap.size,5,none⟩=some (.int .i64 0):=by rw [Lib.cell_of_heap g];rfl
 have m6:c.cell? ⟨w.heap.size,6,none⟩=some (.slice none 0 0):=by rw [Lib.cell_of_heap g];rfl
 have m7:c.cell? ⟨w.heap.size,7,none⟩=some (.int .i64 0):=by rw [Lib.cell_of_heap g];rfl
 have m8:c.cell? ⟨w.heap.size,8,none⟩=some (.int .i64 0):=by rw [Lib.cell_of_heap g];rfl
 have ff:∀j:Nat,c.frozen? ⟨w.heap.size,j,none⟩=false:=fun j=>Lib.frozen_of_heap g j;clear be xe s g D F H J C;go_wp2_with fail
 obtain ⟨h,t⟩:∃W:World,(((((((((c.setCell ⟨w.heap.size,0,none⟩ (.string ⟨#[109,120,46,111,114,103]⟩)).setCell ⟨w.heap.size,1,none⟩ (.slice (some ⟨w.heap.size+1,0,none⟩) 2 2)).setCell ⟨w.heap.size,2,none⟩ (.slice (some ⟨w.heap.size+1+1,0,none⟩) 1 1)).setCell ⟨w.heap.size,3,none⟩ (.slice (some ⟨w.heap.size+1+1+1,0,none⟩) 2 2)).setCell ⟨w.heap.size,4,none⟩ (.int .i64 (1+a))).setCell ⟨w.heap.size,5,none⟩ (.int .i64 (1+b))).setCell ⟨w.heap.size,6,none⟩ (.slice (some ⟨w.heap.size+4,0,none⟩) 3 3)).setCell ⟨w.heap.size,7,none⟩ (.int .i64 (1+d))).setCell ⟨w.heap.size,8,none⟩ (.int .i64 1000000))=W:=⟨_,rfl⟩;rw [t];have L:aL w.heap.size c h:=by rw [←t];exact ((((((((((aL.refl _ _).setCell _).setCell _).setCell _).setCell _).setCell _).setCell _).setCell _).setCell _).setCell _)
 have q:h.heap[w.heap.size]? =some (.cells #[.string ⟨#[109,120,46,111,114,103]⟩,.slice (some ⟨w.heap.size+1,0,none⟩) 2 2,.slice (some ⟨w.heap.size+1+1,0,none⟩) 1 1,.slice (some ⟨w.heap.size+1+1+1,0,none⟩) 2 2,.int .i64 (1+a),.int .i64 (1+b),.slice (some ⟨w.heap.size+4,0,none⟩) 3 3,.int .i64 (1+d),.int .i64 1000000] 30 (0,0)):=by
  rw [←t];have z0:=gU (j:=0) (v:= .string ⟨#[109,120,46,111,114,103]⟩) E.out (A':=#[.string ⟨#[109,120,46,111,114,103]⟩,.slice none 0 0,.slice none 0 0,.slice none 0 0,.int .i64 0,.int .i64 0,.slice none 0 0,.int .i64 0,.int .i64 0]) rfl;have z1:=gU (j:=1) (v:= .slice (some ⟨w.heap.size+1,0,none⟩) 2 2) z0 (A':=#[.string ⟨#[109,120,46,111,114,103]⟩,.slice (some ⟨w.heap.size+1,0,none⟩) 2 2,.slice none 0 0,.slice none 0 0,.int .i64 0,.int .i64 0,.slice none 0 0,.int .i64 0,.int .i64 0]) rfl;have z2:=gU (j:=2) (v:= .slice (some ⟨w.heap.size+1+1,0,none⟩) 1 1) z1 (A':=#[.string ⟨#[109,120,46,111,114,103]⟩,.slice (some ⟨w.heap.size+1,0,none⟩) 2 2,.slice (some ⟨w.heap.size+1+1,0,none⟩) 1 1,.slice none 0 0,.int .i64 0,.int .i64 0,.slice none 0 0,.int .i64 0,.int .i64 0]) rfl;have z3:=gU (j:=3) (v:= .slice (some ⟨w.heap.size+1+1+1,0,none⟩) 2 2) z2 (A':=#[.string ⟨#[109,120,46,111,114,103]⟩,.slice (some ⟨w.heap.size+1,0,none⟩) 2 2,.slice (some ⟨w.heap.size+1+1,0,none⟩) 1 1,.slice (some ⟨w.heap.size+1+1+1,0,none⟩) 2 2,.int .i64 0,.int .i64 0,.slice none 0 0,.int .i64 0,.int .i64 0]) rfl;have z4:=gU (j:=4) (v:= .int .i64 (1+a)) z3 (A':=#[.string ⟨#[109,120,46,111,114,103]⟩,.slice (some ⟨w.heap.size+1,0,none⟩) 2 2,.slice (some ⟨w.heap.size+1+1,0,none⟩) 1 1,.slice (some ⟨w.heap.size+1+1+1,0,none⟩) 2 2,.int .i64 (1+a),.int .i64 0,.slice none 0 0,.int .i64 0,.int .i64 0]) rfl;have z5:=gU (j:=5) (v:= .int .i64 (1+b)) z4 (A':=#[.string ⟨#[109,120,46,111,114,103]⟩,.slice (some ⟨w.heap.size+1,0,none⟩) 2 2,.slice (some ⟨w.heap.size+1+1,0,none⟩) 1 1,.slice (some ⟨w.heap.size+1+1+1,0,none⟩) 2 2,.int .i64 (1+a),.int .i64 (1+b),.slice none 0 0,.int .i64 0,.int .i64 0]) rfl;have z6:=gU (j:=6) (v:= .slice (some ⟨w.heap.size+4,0,none⟩) 3 3) z5 (A':=#[.string ⟨#[109,120,46,111,114,103]⟩,.slice (some ⟨w.heap.size+1,0,none⟩) 2 2,.slice (some ⟨w.heap.size+1+1,0,none⟩) 1 1,.slice (some ⟨w.heap.size+1+1+1,0,none⟩) 2 2,.int .i64 (1+a),.int .i64 (1+b),.slice (some ⟨w.heap.size+4,0,none⟩) 3 3,.int .i64 0,.int .i64 0]) rfl;have z7:=gU (j:=7) (v:= .int .i64 (1+d)) z6 (A':=#[.string ⟨#[109,120,46,111,114,103]⟩,.slice (some ⟨w.heap.size+1,0,none⟩) 2 2,.slice (some ⟨w.heap.size+1+1,0,none⟩) 1 1,.slice (some ⟨w.heap.size+1+1+1,0,none⟩) 2 2,.int .i64 (1+a),.int .i64 (1+b),.slice (some ⟨w.heap.size+4,0,none⟩) 3 3,.int .i64 (1+d),.int .i64 0]) rfl;exact gU (j:=8) (v:= .int .i64 1000000) z7 (A':=#[.string ⟨#[109,120,46,111,114,103]⟩,.slice (some ⟨w.heap.size+1,0,none⟩) 2 2,.slice (some ⟨w.heap.size+1+1,0,none⟩) 1 1,.slice (some ⟨w.heap.size+1+1+1,0,none⟩) 2 2,.int .i64 (1+a),.int .i64 (1+b),.slice (some ⟨w.heap.size+4,0,none⟩) 3 3,.int .i64 (1+d),.int .i64 1000000]) rfl
 have P:h.cell? ⟨w.heap.size,0,none⟩=some (.string ⟨#[109,120,46,111,114,103]⟩):=by rw [Lib.cell_of_heap q];rfl
 have e1:h.cell? ⟨w.heap.size,1,none⟩=some (.slice (some ⟨w.heap.size+1,0,none⟩) 2 2):=by rw [Lib.cell_of_heap q];rfl
 have e2:h.cell? ⟨w.heap.size,2,none⟩=some (.slice (some ⟨w.heap.size+1+1,0,none⟩) 1 1):=by rw [Lib.cell_of_heap q];rfl
 have e3:h.cell? ⟨w.heap.size,3,none⟩=some (.slice (some ⟨w.heap.size+1+1+1,0,none⟩) 2 2):=by rw [Lib.cell_of_heap q];rfl
 have e4:h.cell? ⟨w.heap.size,4,none⟩=some (.int .i64 (1+a)):=by rw [Lib.cell_of_heap q];rfl
 have e5:h.cell? ⟨w.heap.size,5,none⟩=some (.int .i64 (1+b)):=by rw [Lib.cell_of_heap q];rfl
 have e6:h.cell? ⟨w.heap.size,6,none⟩=some (.slice (some ⟨w.heap.size+4,0,none⟩) 3 3):=by rw [Lib.cell_of_heap q];rfl
 have e7:h.cell? ⟨w.heap.size,7,none⟩=some (.int .i64 (1+d)):=by rw [Lib.cell_of_heap q];rfl
 have e8:h.cell? ⟨w.heap.size,8,none⟩=some (.int .i64 1000000):=by rw [Lib.cell_of_heap q];rfl
 clear t q;refine bodyPost_ret (v:= .agg #[.string ⟨#[109,120,46,111,114,103]⟩,.slice (some ⟨w.heap.size+1,0,none⟩) 2 2,.slice (some ⟨w.heap.size+1+1,0,none⟩) 1 1,.slice (some ⟨w.heap.size+1+1+1,0,none⟩) 2 2,.int .i64 (1+a),.int .i64 (1+b),.slice (some ⟨w.heap.size+4,0,none⟩) 3 3,.int .i64 (1+d),.int .i64 1000000]) (by simp [results,Tryz.results8,go_sem,P,e1,e2,e3,e4,e5,e6,e7,e8]) rfl ?_;exact ⟨_,_,_,_,rfl,⟨vE (lK L G.out (by omega)) rfl,vE (lK L I.out (by omega)) rfl,vE (lK L K.out (by omega)) rfl,vE (lK L (by rw [←zd];exact Y.out) (by omega)) rfl⟩,T.out.trans (L.below (Nat.le_refl _))⟩
def sn:List UInt8:=[72,69,76,79,32,120]
def Ey:List UInt8:=[77,65,73,76,32,70,82,79,77,58,60,62]
def Ez:List UInt8:=[82,67,80,84,32,84,79,58,60,98,64,97,46,111,114,103,62]
def so:List UInt8:=[68,65,84,65]
def JP:List UInt8:=[72,69,76,79,32,120,13,10,77,65,73,76,32,70,82,79,77,58,60,62,13,10,82,67,80,84,32,84,79,58,60,98,64,97,46,111,114,103,62,13,10,68,65,84,65,13,10,46,13,10]
def Ea:List UInt8:=[50,53,48,32,109,120,46,111,114,103,13,10,50,53,48,32,111,107,13,10,50,53,48,32,111,107,13,10,51,53,52,32,103,111,13,10,50,53,48,32,107,101,112,116,32,49,13,10]
def rz:List UInt8:=[98,64,97,46,111,114,103]
def tQ:aX:=⟨1,0,[],[rz],[]⟩
def Cj:aa:=aa.plus ⟨[],0⟩ tQ
def I6:List UInt8:=bJ (cA tQ)
section
variable {a b d:Int} {c:bX}
def br (c:bX):bG:={dI c 1 with greeted:=true}
theorem Gs (D:0≤a) (E:0≤b):cL (dD a b d) (dI (dD a b d) 1,⟨[],0⟩,[],[]) JP=(br (dD a b d),Cj,I6,Ea):=by
 obtain ⟨c,f⟩:∃c,dD a b d=c:=⟨_,rfl⟩;have g:c.most=1+a:=by rw [←f];rfl
 have h:c.size=1+b:=by rw [←f];rfl
 have m:dM c rz=true:=by rw [←f];kernel_rfl
 have o:jt c [] tQ=true:=by rw [←f];kernel_rfl
 have n:cQ c=[109,120,46,111,114,103]:=by rw [←f];rfl
 rw [f];clear f;have p:bn sn false=⟨6,[],0,[]⟩:=by kernel_rfl
 have q:bn Ey false=⟨9,[],0,[]⟩:=by kernel_rfl
 have r:bn Ez false=⟨10,rz,0,[]⟩:=by kernel_rfl
 have s:bn so false=⟨5,[],0,[]⟩:=by kernel_rfl
 have t:zK sn=true:=by kernel_rfl
 have u:zK Ey=true:=by kernel_rfl
 have v:zK Ez=true:=by kernel_rfl
 have w:zK so=true:=by kernel_rfl
 have x:zK [46]=true:=by kernel_rfl
 have i:JP=sn++[13,10]++(Ey++[13,10]++(Ez++[13,10]++(so++[13,10]++([46]++[13,10])))):=rfl
 have y:aO c (dI c 1) ⟨[],0⟩ [] sn false=(br c,⟨[],0⟩,[],[[50,53,48,32]++cQ c++[13,10]]):=by
  show ((bz c (dI c 1) (bn sn false)).1,_,_,(bz c (dI c 1) (bn sn false)).2)=_;rw [p];rfl
 have z:aO c (br c) ⟨[],0⟩ [] Ey false=({br c with tx:=some ⟨[],[],none⟩},⟨[],0⟩,[],[jD]):=by
  show ((bz c (br c) (bn Ey false)).1,_,_,(bz c (br c) (bn Ey false)).2)=_;rw [q];have e:bz c (br c) ⟨9,[],0,[]⟩=if c.size < ((0:Nat):Int) then (br c,[uw]) else ({br c with tx:=some ⟨[],[],none⟩},[jD]):=rfl;rw [e,if_neg (by rw [h];omega)]
 have A:aO c {br c with tx:=some ⟨[],[],none⟩} ⟨[],0⟩ [] Ez false=({br c with tx:=some ⟨[],[rz],none⟩},⟨[],0⟩,[],[jD]):=by
  show ((bz c {br c with tx:=some ⟨[],[],none⟩} (bn Ez false)).1,_,_,(bz c {br c with tx:=some ⟨[],[],none⟩} (bn Ez false)).2)=_;rw [r];have e:bz c {br c with tx:=some ⟨[],[],none⟩} ⟨10,rz,0,[]⟩=({br c with tx:=some ⟨[],cY [] c.most ((br c).nets || (br c).known || dM c rz) rz,none⟩},[b9 [] c.most ((br c).nets || (br c).known || dM c rz) rz]):=rfl;have j:((br c).nets || (br c).known || dM c rz)=true:=by rw [m,Bool.or_true]
  have k:cY [] c.most true rz=[rz]:=by
   unfold cY;rw [if_neg (by decide),if_neg (by rw [g];show ¬((0:Nat):Int)=1+a;omega),if_pos rfl];rfl
  have l:b9 [] c.most true rz=jD:=by
   unfold b9;rw [if_neg (by decide),if_neg (by rw [g];show ¬((0:Nat):Int)=1+a;omega),if_pos rfl];rfl
  rw [e,j,k,l]
 have B:aO c {br c with tx:=some ⟨[],[rz],none⟩} ⟨[],0⟩ [] so false=({br c with tx:=some ⟨[],[rz],some ⟨[],false,false⟩⟩},⟨[],0⟩,[],[zl]):=by
  show ((bz c {br c with tx:=some ⟨[],[rz],none⟩} (bn so false)).1,_,_,(bz c {br c with tx:=some ⟨[],[rz],none⟩} (bn so false)).2)=_;rw [s];rfl
 have C:aO c {br c with tx:=some ⟨[],[rz],some ⟨[],false,false⟩⟩} ⟨[],0⟩ [] [46] false=(br c,Cj,I6,[[50,53,48,32,107,101,112,116,32]++Lib.itoa ((0:Int)+1)++[13,10]]):=by
  show kz c {br c with tx:=some ⟨[],[rz],some ⟨[],false,false⟩⟩} ⟨[],0⟩ [] ⟨[],[rz],some ⟨[],false,false⟩⟩ ⟨[],false,false⟩=_;unfold kz;rw [if_neg (by decide),if_neg (by rw [h];show ¬1+b < ((0:Nat):Int);omega)];exact Eq.trans (if_pos o) rfl
 rw [i,gI c _ _ _ _ t rfl rfl,y,gI c _ _ _ _ u rfl rfl,z,gI c _ _ _ _ v rfl rfl,A,gI c _ _ _ _ w rfl rfl,B,lQ c _ _ _ _ x rfl rfl,C,n,show Lib.itoa ((0:Int)+1)=[49] by kernel_rfl]
 rfl
theorem Ag:gA Cj.items=[tQ]:=by kernel_rfl
theorem Af:mX (dD a b d)=[50,50,48,32,109,120,46,111,114,103,13,10]:=rfl
def I5 (c:bX):GS:=⟨Cj,I6,[some (br c)],none,oS ⟨[],0⟩ Cj (fun _=>(0,0)),[⟨1,false,false,false,[]⟩],[⟨1,0,[],[rz],[]⟩],false⟩
theorem Gr (k:dX c):hJ (I5 c):=by
 refine ⟨rfl,fun n x o e f=>?_,rfl,fun m g=>?_,fun m g=>?_,Nat.le_refl 1,fun i j=>?_⟩
 ·have e:([⟨1,false,false,false,[]⟩]:List ca)[n]? =some x:=e;have f:([some (br c)]:List (Option bG))[n]? =some o:=f
  cases n with
  | zero=>
   injection e with e;injection f with f;subst e f;exact ⟨rfl,rfl,rfl,rfl,rfl,rfl,Dk k.nets (addr:=1),(fun t h=>by cases h),by decide,by decide⟩
  | succ n=>cases e
 ·rw [List.mem_singleton.1 (show m∈[(⟨1,0,[],[rz],[]⟩:aX)] from g)];exact Nat.le_refl 1
 ·rw [List.mem_singleton.1 (show m∈[(⟨1,0,[],[rz],[]⟩:aX)] from g)];decide
 ·have j:i < 1:=j;obtain rfl:i=0:=by omega
  refine ⟨fun m g _ t h=>?_,fun l=>absurd rfl (l ⟨1,0,[],[rz],[]⟩ (List.mem_singleton.2 rfl))⟩;rw [List.mem_singleton.1 (show m∈[(⟨1,0,[],[rz],[]⟩:aX)] from g)];exact h
theorem Fb (e:0≤a∧a < 10) (f:0≤b∧b < 1000) (g:0≤d∧d < 60):dX (dD a b d):=⟨rfl,rfl,oW e f g⟩
end
theorem Jv {c:bX} {w d:World} {e:Ending} (h:yt c [] w e d):∃(E own:Nat→Prop) (a:Nat),e= .returned (.tuple #[.pointer (some ⟨a,0,none⟩),.int .i64 0])∧iC E own a c d ⟨[],0⟩ [] [] none (fun _=>(0,0))∧(∀k,E k→yX k∨w.heap.size≤k)∧(∀k,own k→w.heap.size≤k)∧¬yX a∧Below w.heap.size w d:=by
 obtain ⟨K,E,a,l,j,q,o,v,u,g,b,s,r,t⟩:=h;rw [FI] at g b r;have p:@bQ K E a l j c d q o ⟨[],0⟩ [] (.slice none 0 0) []:=⟨g,(fun n x e=>by cases e),(fun n m x y _ e=>by cases e),by decide,by decide,zP.nil 0,b⟩
 refine ⟨E,ee d l j q o ⟨[],0⟩ (.slice none 0 0) [],a,u,⟨K,l,j,q,o,_,[],none,p,v,(fun i f=>by cases f),rfl,rfl,(fun i f=>by cases f),fun k e=>e.elim id (fun e=>by cases e),fun k e=>nz _ p e⟩,s,fun k e=>?_,g.gpp,t⟩
 rcases e with e | e | ⟨n,x,e,_⟩
 ·exact r k e
 ·cases e
 ·cases e
def Ko (c:bX) (w:World) (e:Ending) (w':World):Prop:=
 ∃gb E own pp vS vM sl ml,e= .returned (.pointer (some ⟨gb,0,none⟩))∧gX E own pp gb c w' vS vM sl ml (I5 c)∧(∀k,k=pp∨own k∨fX gb vS vM k→w.heap.size≤k)∧Below w.heap.size w w'
theorem xN {a b d:Int} (c:ij (dD a b d)=true):xt (dD a b d):=by
 have h:=kg c;unfold xt;exact ⟨by have:=h.host;unfold maxLen;omega,by have:=h.doms;omega,fun x e=>by have:=h.domz x e;unfold maxLen;omega,by have:=h.nets;omega,by have:=h.users;omega,fun x e=>by have:=h.userz x e;unfold maxLen;omega,by have:=h.waits;omega⟩
theorem Cl {a b d:Int} (ha:0≤a∧a < 10) (hb:0≤b∧b < 1000) (hd:0≤d∧d < 60) (vD vN vU vW:Value) (w:World) (h:jZ w (dD a b d) vD vN vU vW) (hg:iR w):
  Calls Tryz.prog 7 #[.agg #[.string (dD a b d).host,vD,vN,vU,.int .i64 (dD a b d).most,.int .i64 (dD a b d).size,vW,.int .i64 (dD a b d).life,.int .i64 (dD a b d).room]] w (Ko (dD a b d) w):=by
 have q:=oW ha hb hd;have c6:=xN q;have O:=Gs (a:=a) (b:=b) (d:=d) ha.1 hb.1;have c2:=Af (a:=a) (b:=b) (d:=d);obtain ⟨c,ec⟩:∃c,dD a b d=c:=⟨_,rfl⟩;rw [ec] at h q c6 O c2 ⊢;clear ec ha hb hd;obtain ⟨aD,cD,eD⟩:=aE h.1;obtain ⟨aN,cN,eN⟩:=aE h.2.1;obtain ⟨aU,cU,eU⟩:=aE h.2.2.1;obtain ⟨aW,cW,eW⟩:=aE h.2.2.2;subst eD eN eU eW;obtain ⟨nD,e3⟩:∃n,c.doms.length=n:=⟨_,rfl⟩;obtain ⟨nN,e4⟩:∃n,c.nets.length=n:=⟨_,rfl⟩;obtain ⟨nU,e5⟩:∃n,c.users.length=n:=⟨_,rfl⟩;obtain ⟨nW,e6⟩:∃n,c.waits.length=n:=⟨_,rfl⟩;obtain ⟨fh,e2⟩:∃n,c.host=n:=⟨_,rfl⟩;obtain ⟨f4,d8⟩:∃n,c.most=n:=⟨_,rfl⟩;obtain ⟨f5,d9⟩:∃n,c.size=n:=⟨_,rfl⟩;obtain ⟨f7,e0⟩:∃n,c.life=n:=⟨_,rfl⟩;obtain ⟨f8,e1⟩:∃n,c.room=n:=⟨_,rfl⟩;obtain ⟨C0,b5⟩:∃C:Array Value,#[.string fh,.slice aD nD cD,.slice aN nN cN,.slice aU nU cU,.int .i64 f4,.int .i64 f5,.slice aW nW cW,.int .i64 f7,.int .i64 f8]=C:=⟨_,rfl⟩;have X0:=heap_alloc_new w (.cells C0 30);have b0:Below w.heap.size w (w.alloc (.cells C0 30)):=(Below.refl _ _).alloc (Nat.le_refl _) _;obtain ⟨W0,Y⟩:∃W:World,w.alloc (.cells C0 30)=W:=⟨_,rfl⟩;rw [Y] at X0 b0;have A:=qU c _ _ _ _ [] W0 (h.below b0) c6 q (hg.below b0) (by decide);rw [e3,e4,e5,e6,e2,d8,d9,e0,e1] at A ⊢;rw [←b5] at Y;have HO:=Lib.hid A;have g6:=Lib.hid X0;have a2:=Lib.hid b0;have g5:=Lib.hid Y;have HG:=Lib.hid hg;have i5:w.heap.size < W0.heap.size:=ah X0;have i1:=Lib.hid q;have c9:=Lib.hid O;have f9:=Lib.hid c2;have l:=Lib.hid b5;clear b5 h X0 b0 Y A c6 q O c2 hg e3 e4 e5 e6 e2 d8 d9 e0 e1;go_enter Tryz.func7,Tryz.ntmps7;go_wp2_with fail
 rw [g5.out];refine HO.out.mono ?_;intro e i f0;obtain ⟨E,own,pp,rfl,hP,hE,hO,e9,c0⟩:=Jv f0;have S:=ae c0 g6.out;have y0:i.cell? ⟨w.heap.size,0,none⟩=some (.string fh):=by rw [Lib.cell_of_heap S,←l.out];rfl
 have y1:i.cell? ⟨w.heap.size,1,none⟩=some (.slice aD nD cD):=by rw [Lib.cell_of_heap S,←l.out];rfl
 have y2:i.cell? ⟨w.heap.size,2,none⟩=some (.slice aN nN cN):=by rw [Lib.cell_of_heap S,←l.out];rfl
 have y3:i.cell? ⟨w.heap.size,3,none⟩=some (.slice aU nU cU):=by rw [Lib.cell_of_heap S,←l.out];rfl
 have y4:i.cell? ⟨w.heap.size,4,none⟩=some (.int .i64 f4):=by rw [Lib.cell_of_heap S,←l.out];rfl
 have y5:i.cell? ⟨w.heap.size,5,none⟩=some (.int .i64 f5):=by rw [Lib.cell_of_heap S,←l.out];rfl
 have y6:i.cell? ⟨w.heap.size,6,none⟩=some (.slice aW nW cW):=by rw [Lib.cell_of_heap S,←l.out];rfl
 have y7:i.cell? ⟨w.heap.size,7,none⟩=some (.int .i64 f7):=by rw [Lib.cell_of_heap S,←l.out];rfl
 have y8:i.cell? ⟨w.heap.size,8,none⟩=some (.int .i64 f8):=by rw [Lib.cell_of_heap S,←l.out];rfl
 have HP:=Lib.hid hP;have HE:=Lib.hid hE;have g0:=Lib.hid hO;have H:=Lib.hid c0;have f6:=Lib.hid e9;clear hP hE hO c0 S f0 HO e9;go_wp2_with fail
 obtain ⟨C2,b6⟩:∃C:Array Value,#[.pointer (some ⟨pp,0,none⟩),.string fh,.slice aD nD cD,.slice aN nN cN,.slice aU nU cU,.int .i64 f4,.int .i64 f5,.slice aW nW cW,.int .i64 f7,.int .i64 f8,.slice none 0 0,.slice none 0 0,.int .i64 0,.bool false]=C:=⟨_,rfl⟩;have x2:=heap_alloc_new i (.cells C2 41);have b2:Below i.heap.size i (i.alloc (.cells C2 41)):=(Below.refl _ _).alloc (Nat.le_refl _) _;have z2:(i.alloc (.cells C2 41)).heap.size=i.heap.size+1:=by simp
 rw [b6];have a8:=Lib.hid b6;clear b6;obtain ⟨W2,e7⟩:∃W:World,i.alloc (.cells C2 41)=W:=⟨_,rfl⟩;rw [e7] at x2 b2 z2 ⊢;clear e7;have P2:=HP.out.below b2;have a9:=P2.conn 1 (by decide) (by decide) (by decide);rw [f9.out,show bs [50,50,48,32,109,120,46,111,114,103,13,10]=⟨#[50,50,48,32,109,120,46,111,114,103,13,10]⟩ from rfl] at a9;refine a9.mono ?_;rintro e w3 ⟨rfl,Z,P3,p,K3⟩;have f2:pp < i.heap.size:=HP.out.elt HP.out.epp;have F:∀k,own k→W0.heap.size≤k∧k < i.heap.size:=fun k e=>⟨g0.out k e,HP.out.lt e⟩;have f1:W0.heap.size≤pp:=(HE.out pp HP.out.epp).resolve_left f6.out;have x3:=K3.some_ x2 (fun e=>e.elim (fun e=>by omega) (fun e=>by have:=F _ e;omega))
 have Q:∀k,Z k→W0.heap.size≤k∧k≠i.heap.size:=fun k e=>by
  have hz:=H.out.size
  rcases p k e with e | e
  ·have:=F k e;omega
  ·omega
 have B3:Below w.heap.size w w3:=((a2.out.trans (H.out.mono a2.out.size)).trans (b2.mono (by have:=H.out.size;omega))).trans (K3.toBelow (fun k e=>e.elim (fun e=>by omega) (fun e=>by have:=F k e;omega)) (by have:=H.out.size;omega));have HR:=P3.recv 0 (s:=dI c 1) rfl JP (by decide);rw [c9.out,show bs Ea=⟨#[50,53,48,32,109,120,46,111,114,103,13,10,50,53,48,32,111,107,13,10,50,53,48,32,111,107,13,10,51,53,52,32,103,111,13,10,50,53,48,32,107,101,112,116,32,49,13,10]⟩ from rfl] at HR;have d1:=Lib.hid HR;have d2:=Lib.hid x3;have a5:=Lib.hid B3;have d0:=Lib.hid Q;clear HR x3 B3 Q K3 p P3 a9 P2 x2 b2;go_wp2_with fail
 refine d1.out.mono ?_;rintro e w4 ⟨rfl,t,P4,o4,K4⟩;have P4:iC E t pp c w4 Cj I6 [some (br c)] none (oS ⟨[],0⟩ Cj (fun _=>(0,0))):=P4;have i6:i.heap.size < w3.heap.size:=ah d2.out;have b4:∀k,k=pp∨Z k→W0.heap.size≤k∧k≠i.heap.size:=fun k e=>e.elim (fun e=>by omega) (d0.out k);have x4:=K4.some_ d2.out (fun e=>(b4 _ e).2 rfl);have B4:Below w.heap.size w w4:=a5.out.trans (K4.toBelow (fun k e=>by have:=(b4 k e).1;omega) a5.out.size)
 have R:∀k,t k→w.heap.size≤k∧k≠i.heap.size:=fun k e=>by
  have:=a5.out.size
  rcases o4 k e with e | e
  ·have:=d0.out k e;omega
  ·omega
 have hQ:=P4.queue;have HQ:=Lib.hid hQ;have g7:=Lib.hid x4;have a6:=Lib.hid B4;have b1:=Lib.hid R;have b3:=Lib.hid P4;have i4:=Lib.hid f2;have g4:=Lib.hid f1;clear x4 B4 R P4 o4 K4 d1 hQ b4 F f2 f1;go_wp2_with fail
 refine HQ.out.mono ?_;rintro e f ⟨v,a0,rfl,hr,he,c1⟩;rw [Ag] at he
 obtain ⟨⟨m0,g2⟩,rfl⟩:∃x,a0=[x]:=by
  cases a0 with
  | nil=>cases he
  | cons x r=>cases r with
   | nil=>exact ⟨x,rfl⟩
   | cons y r=>simp at he
 have em:m0=tQ:=by simpa using he
 subst em
 obtain ⟨g,d7,I,ev,P⟩:∃g d7 I,v= .slice (some ⟨g,0,none⟩) 1 d7∧f.heap[g]? =some (.cells I 45 (0,0))∧I.toList.take 5=(aY tQ (gW (tQ,g2)).2).toList:=by
  rcases hr.row.2 with ⟨_,h0⟩ | ⟨g,cp,I,e,_,hg,_,_,_,h7⟩
  ·cases h0
  ·exact ⟨g,cp,I,e,hg,by simpa [fJ,show (gW (tQ,g2)).1=tQ from rfl] using h7⟩
 have G:∀j,j < 5→f.cell? ⟨g,j,none⟩=(aY tQ (gW (tQ,g2)).2).toList[j]? :=fun j hj=>by
  rw [Lib.cell_of_heap P.1,←Array.getElem?_toList,←List.getElem?_take_of_lt hj,P.2]
 have t0:f.cell? ⟨g,0,none⟩=some (.int .i64 1):=G 0 (by decide);have t1:f.cell? ⟨g,1,none⟩=some (.int .i64 0):=G 1 (by decide);have t2:f.cell? ⟨g,2,none⟩=some (.string ⟨#[]⟩):=G 2 (by decide);have t3:f.cell? ⟨g,3,none⟩=some (.slice (some ⟨g2,0,none⟩) 1 1):=G 3 (by decide);have t4:f.cell? ⟨g,4,none⟩=some (.string ⟨#[]⟩):=G 4 (by decide);subst ev;have x5:=ae c1 g7.out;have g8:=Lib.hid x5;have x6:∀o:Obj,(f.alloc o).heap[i.heap.size]? =some (.cells C2 41 (0,0)):=fun o=>ae ((Below.refl _ f).alloc (Nat.le_refl _) o) x5;have u10:∀o:Obj,(f.alloc o).cell? ⟨i.heap.size,10,none⟩=some (.slice none 0 0):=fun o=>by rw [Lib.cell_of_heap (x6 o),←a8.out];rfl
 have x7:∀(V:Value) (B D p:Obj),((((f.alloc B).setCell ⟨i.heap.size,10,none⟩ V).alloc D).alloc p).heap[i.heap.size]? =some (.cells (C2.setIfInBounds 10 V) 41 (0,0)):=fun V B D p=>ae ((Below.refl _ _).alloc (Nat.le_refl _) p) (ae ((Below.refl _ _).alloc (Nat.le_refl _) D) (heap_setCell_same _ i.heap.size 10 _ _ V (x6 B)));have u11:∀(V:Value) (B D p:Obj),((((f.alloc B).setCell ⟨i.heap.size,10,none⟩ V).alloc D).alloc p).cell? ⟨i.heap.size,11,none⟩=some (.slice none 0 0):=fun V B D p=>by rw [Lib.cell_of_heap (x7 V B D p),←a8.out];rfl
 have i8:∀(V:Value) (B D p:Obj),((((f.alloc B).setCell ⟨i.heap.size,10,none⟩ V).alloc D).alloc p).frozen? ⟨i.heap.size,11,none⟩=false:=fun V B D p=>Lib.frozen_of_heap (x7 V B D p) 11;have g9:=Lib.hid x7;have i7:∀o:Obj,(f.alloc o).frozen? ⟨i.heap.size,10,none⟩=false:=fun o=>Lib.frozen_of_heap (x6 o) 10;have a7:=Lib.hid c1;clear hr he P G x5 c1 HQ x6 x7;go_wp2_with fail
 obtain ⟨B,c3⟩:∃o:Obj,.cells #[.int .i64 1,.bool false,.bool false,.bool false,.slice none 0 0] 51=o:=⟨_,rfl⟩;obtain ⟨D,c4⟩:∃o:Obj,.cells #[.string ⟨#[98,64,97,46,111,114,103]⟩] 9=o:=⟨_,rfl⟩;obtain ⟨p,c5⟩:∃o:Obj,.cells #[.int .i64 1,.int .i64 0,.string ⟨#[]⟩,.slice (some ⟨f.heap.size+1,0,none⟩) 1 1,.string ⟨#[]⟩] 45=o:=⟨_,rfl⟩;rw [c3,c4,c5];go_ret;obtain ⟨V1,b7⟩:∃V:Value,.slice (some ⟨f.heap.size,0,none⟩) 1 1=V:=⟨_,rfl⟩;obtain ⟨V2,b8⟩:∃V:Value,.slice (some ⟨f.heap.size+1+1,0,none⟩) 1 1=V:=⟨_,rfl⟩;rw [b7,b8];obtain ⟨u,T⟩:∃u,i.heap.size=u:=⟨_,rfl⟩;rw [T];obtain ⟨A1,K⟩:∃W:World,f.alloc B=W:=⟨_,rfl⟩;have a1:=heap_alloc_new f (.cells #[.int .i64 1,.bool false,.bool false,.bool false,.slice none 0 0] 51);rw [c3,K] at a1;have h2:aH (fun k=>k=u) f A1:=by rw [←K];exact aH.below ((Below.refl _ f).alloc (Nat.le_refl _) B)
 have i0:A1.heap.size=f.heap.size+1:=by rw [←K];simp
 rw [K];obtain ⟨A2,U⟩:∃W:World,A1.setCell ⟨u,10,none⟩ V1=W:=⟨_,rfl⟩;have h3:aH (fun k=>k=u) A1 A2:=by rw [←U];exact aH.same ((aL.refl _ _).setCell _)
 have c8:A2.heap.size=f.heap.size+1:=by rw [←U];simpa using i0
 rw [U];obtain ⟨A3,L⟩:∃W:World,A2.alloc D=W:=⟨_,rfl⟩;have a3:=heap_alloc_new A2 (.cells #[.string ⟨#[98,64,97,46,111,114,103]⟩] 9);rw [c4,L] at a3;have h4:aH (fun k=>k=u) A2 A3:=by rw [←L];exact aH.below ((Below.refl _ A2).alloc (Nat.le_refl _) D)
 have f3:A3.heap.size=f.heap.size+2:=by rw [←L];simp [c8]
 rw [L];obtain ⟨A4,X⟩:∃W:World,A3.alloc p=W:=⟨_,rfl⟩;have a4:=heap_alloc_new A3 (.cells #[.int .i64 1,.int .i64 0,.string ⟨#[]⟩,.slice (some ⟨f.heap.size+1,0,none⟩) 1 1,.string ⟨#[]⟩] 45);rw [c5,X] at a4;have h5:aH (fun k=>k=u) A3 A4:=by rw [←X];exact aH.below ((Below.refl _ A3).alloc (Nat.le_refl _) p)
 rw [X];have x7:=g9.out V1 B D p;rw [T,K,U,L,X] at x7;have x8:=heap_setCell_same _ u 11 _ _ V2 x7;obtain ⟨W8,e8⟩:∃W:World,A4.setCell ⟨u,11,none⟩ V2=W:=⟨_,rfl⟩;have h6:aH (fun k=>k=u) A4 W8:=by rw [←e8];exact aH.same ((aL.refl _ _).setCell _)
 rw [e8] at x8 ⊢;have d5:=h6;have d4:=h5.trans d5 (fun _ _ e=>e);have h1:=h4.trans d4 (fun _ _ e=>e);have d3:=h3.trans h1 (fun _ _ e=>e);have d6:=h2.trans d3 (fun _ _ e=>e);have i2:u < f.heap.size:=by rw [←T];exact ah g8.out
 have s1:=d3.some_ a1 (by omega);have s3:=d4.some_ a3 (by rw [c8];omega);have s4:=d5.some_ a4 (by rw [f3];omega);rw [←c3] at s1;rw [←c4,c8] at s3;rw [←c5,f3] at s4;have P8:=(b3.out.below a7.out).chg d6 (fun k e x=>by have:=HP.out.elt e;omega) (fun k e x=>(b1.out k e).2 (by omega));have i3:w.heap.size≤u:=by have:=a2.out.size;have:=H.out.size;omega
 have c7:w4.heap.size≤f.heap.size:=a7.out.size;have h8:w.heap.size≤f.heap.size:=Nat.le_trans a6.out.size c7;have m:∀k,t k→k < f.heap.size:=fun k e=>Nat.lt_of_lt_of_le (b3.out.lt e) c7;have J:∀k,E k→k < f.heap.size:=fun k e=>Nat.lt_of_lt_of_le (b3.out.elt e) c7;have M:V1.ownBlock=some f.heap.size:=by rw [←b7];rfl
 have N:V2.ownBlock=some (f.heap.size+1+1):=by rw [←b8];rfl
 have h9:∀k,fX u V1 V2 k→k < W8.heap.size∧¬E k∧¬t k:=fun k e=>by
  rcases e with e | e | e
  ·rw [e];exact ⟨ah x8,fun z=>by have:=HP.out.elt z;omega,fun z=>(b1.out u z).2 T.symm⟩
  ·rw [M] at e;injection e with e;rw [←e];exact ⟨ah s1,fun z=>by have:=J _ z;omega,fun z=>by have:=m _ z;omega⟩
  ·rw [N] at e;injection e with e;rw [←e];exact ⟨ah s4,fun z=>by have:=J _ z;omega,fun z=>by have:=m _ z;omega⟩
 refine ⟨u,E,t,pp,V1,V2,[(⟨1,false,false,false,[]⟩,.slice none 0 0)],[(⟨1,0,[],[rz],[]⟩,.slice (some ⟨f.heap.size+1,0,none⟩) 1 1)],rfl,⟨P8,⟨_,x8,?_⟩,?_,?_,rfl,rfl,?_,?_,h9⟩,fun k e=>?_,?_⟩
 ·rw [←a8.out];exact ⟨rfl,rfl,rfl,rfl,rfl,rfl⟩
 ·rw [←b7];exact ⟨rfl,.inr ⟨f.heap.size,1,_,rfl,Nat.zero_le _,s1,Nat.le_refl _,by unfold maxLen;omega,rfl,rfl⟩⟩
 ·rw [←b8];exact ⟨rfl,.inr ⟨f.heap.size+1+1,1,_,rfl,Nat.zero_le _,s4,Nat.le_refl _,by unfold maxLen;omega,rfl,rfl⟩⟩
 ·intro x hx;rw [List.mem_singleton.1 hx];exact iE.nil _
 ·intro x hx;rw [List.mem_singleton.1 hx];refine ⟨?_,fun k e=>?_⟩
  ·exact ⟨rfl,.inr ⟨f.heap.size+1,0,1,rfl,Nat.le_refl _,fun j hj=>by rw [Nat.zero_add,Lib.cell_of_heap s3,←Array.getElem?_toList];rfl⟩⟩
  ·have e:f.heap.size+1=k:=by simpa [Value.ownBlock] using e
   rw [←e];refine ⟨ah s3,fun z=>by have:=J _ z;omega,fun z=>by have:=m _ z;omega,fun z=>?_⟩
   rcases z with z | z | z
   ·omega
   ·rw [M] at z;injection z with z;omega
   ·rw [N] at z;injection z with z;omega
 ·rcases e with e | e | e | e | e
  ·have:=g4.out;omega
  ·exact (b1.out k e).1
  ·omega
  ·rw [M] at e;injection e with e;omega
  ·rw [N] at e;injection e with e;omega
 ·exact (a6.out.trans (a7.out.mono a6.out.size)).trans (d6.toBelow (fun k e=>by omega) h8)
def iA (l:List (Int×Int×Int)):List Value:=l.flatMap fun x=>[.int .i64 x.1,.int .i64 x.2.1,.int .i64 x.2.2]
theorem qd (l:List (Int×Int×Int)) (k i:Nat) (h:k < l.length) (a:i < 3):(iA l)[k * 3+i]? =[Value.int .i64 l[k].1,.int .i64 l[k].2.1,.int .i64 l[k].2.2][i]? :=by
 induction l generalizing k with
 | nil=>simp at h
 | cons x l ih=>
  show ([Value.int .i64 x.1,.int .i64 x.2.1,.int .i64 x.2.2]++iA l)[k * 3+i]? =_
  cases k with
  | zero=>
   rw [List.getElem?_append_left (by simp;omega)];simp
  | succ k=>
   rw [List.getElem?_append_right (by simp;omega),show (k+1) * 3+i - [Value.int .i64 x.1,.int .i64 x.2.1,.int .i64 x.2.2].length=k * 3+i by simp;omega]
   exact ih k (by simpa using h)
def kN (n:Int):Prop:= -9223372036854775808≤n∧n≤9223372036854775807
def yu (l:List (Int×Int×Int)):Prop:=l.length≤9223372036854775806∧∀x∈l,kN x.1∧kN x.2.1∧kN x.2.2
def GW (base:Nat) (E:Nat→Prop) (pp gb:Nat) (c:bX) (g:GS) (w:World):Prop:=∃own vS vM sl ml,gX E own pp gb c w vS vM sl ml g∧∀k,k=pp∨own k∨fX gb vS vM k→base≤k
theorem GW.to {a:Nat} {E own:Nat→Prop} {i f:Nat} {c:bX} {o:GS} {w n:World} {q p:Value} (d:∀k,k=i∨own k∨fX f q p k→a≤k) (u:a≤w.heap.size) (h:cX E own i f c w q p o n):GW a E i f c o n∧Below a w n:=by
 obtain ⟨b,m,l,j,g,r,s,t⟩:=h;refine ⟨⟨b,m,l,j,g,r,fun k e=>?_⟩,t.toBelow (fun k e=>d k e) u⟩
 rcases e with e | e
 ·exact d k (.inl e)
 ·rcases s k e with x | x | x
  ·exact d k (.inr (.inl x))
  ·exact d k (.inr (.inr x))
  ·omega
theorem GW.below {base:Nat} {E:Nat→Prop} {b a:Nat} {c:bX} {g:GS} {w d:World} (h:GW base E b a c g w) (i:Below w.heap.size w d):GW base E b a c g d:=by
 obtain ⟨own,m,l,k,j,e,f⟩:=h;exact ⟨own,m,l,k,j,e.below i,f⟩
theorem De {w:World} {v:Value} {l:List (Int×Int×Int)} (h:bg w v l.length 3 (iA l)):∃a d,v= .slice a l.length d∧∀k (n:k < l.length),∃b o,a=some ⟨b,o,none⟩∧b < w.heap.size∧w.cell? ⟨b,o+k * 3,none⟩=some (.int .i64 l[k].1)∧w.cell? ⟨b,o+k * 3+1,none⟩=some (.int .i64 l[k].2.1)∧w.cell? ⟨b,o+k * 3+2,none⟩=some (.int .i64 l[k].2.2):=by
 obtain ⟨a,d,e,s⟩:=h.shape;refine ⟨a,d,e,fun k n=>?_⟩
 have c:∀i,i < 3→∃b o,a=some ⟨b,o,none⟩∧b < w.heap.size∧w.cell? ⟨b,o+k * 3+i,none⟩=[Value.int .i64 l[k].1,.int .i64 l[k].2.1,.int .i64 l[k].2.2][i]? :=fun i g=>by
  obtain ⟨b,p,e,m,h⟩:=s k i n g;exact ⟨b,p,e,m,by rw [Nat.add_assoc,h,qd l k i n g]⟩
 obtain ⟨b,o,q,m,u⟩:=c 0 (by omega)
 have j:∀i,i < 3→w.cell? ⟨b,o+k * 3+i,none⟩=[Value.int .i64 l[k].1,.int .i64 l[k].2.1,.int .i64 l[k].2.2][i]? :=fun i g=>by
  obtain ⟨t,r,f,_,h⟩:=c i g;rw [q] at f;injection f with e;injection e with e1 e2;subst e1 e2;exact h
 exact ⟨b,o,q,m,j 0 (by omega),j 1 (by omega),j 2 (by omega)⟩
section
variable {H:Type} {enc:TypeId×Value→H} {w:World} {base:Nat} {spare:Nat→Bool} {held:Bool}
theorem qE {n:Int} (h:(Lit.int .i64 n).wf=true):kN n:=by
 simp only [Lit.wf,Bool.and_eq_true,decide_eq_true_eq] at h;exact h
theorem tW:Tryz.prog.cellsOf 34=3:=by kernel_rfl
theorem Co:Tryz.prog.bytesOf 34=24:=by kernel_rfl
theorem JJ {α:Type} {l:List α} (h:l.length=3):∃a b c,l=[a,b,c]:=by
 match l,h with
 | [a,b,c],_=>exact ⟨a,b,c,rfl⟩
theorem FB {a:Nat} {f:List Value} {x:DataW H×List MemPlace} (h:DataW.trod enc Tryz.prog w base spare held a 34 f=some x):
  ∃o:Int×Int×Int,f=[.int .i64 o.1,.int .i64 o.2.1,.int .i64 o.2.2]∧kN o.1∧kN o.2.1∧kN o.2.2:=by
 obtain ⟨A,n,_,rfl,l,m,e⟩:=DataW.trod_struct Tryz.underlying34 h;rw [tW] at l;obtain ⟨b,c,d,rfl⟩:=JJ l;obtain ⟨v,y,z,rfl⟩:=JJ m;have k:DataW.trod enc Tryz.prog w base spare held n 3 (([b,c,d].drop 0).take (Tryz.prog.cellsOf 3))=some v:=e 0 _ rfl;have g1:DataW.trod enc Tryz.prog w base spare held n 3 (([b,c,d].drop 1).take (Tryz.prog.cellsOf 3))=some y:=e 1 _ rfl;have g2:DataW.trod enc Tryz.prog w base spare held n 3 (([b,c,d].drop 2).take (Tryz.prog.cellsOf 3))=some z:=e 2 _ rfl;simp only [EG,List.drop_zero,List.drop_succ_cons,List.take_succ_cons,List.take_zero] at k g1 g2;obtain ⟨p,g,_,s⟩:=DataW.trod_int Tryz.underlying3 k;obtain ⟨q,i,_,t⟩:=DataW.trod_int Tryz.underlying3 g1;obtain ⟨r,j,_,u⟩:=DataW.trod_int Tryz.underlying3 g2;simp only [List.cons.injEq,and_true] at g i j;exact ⟨(p,q,r),by rw [g,i,j],qE s,qE t,qE u⟩
theorem Hv (l:List (Int×Int×Int)):(iA l).length=l.length * 3:=by
 induction l with
 | nil=>rfl
 | cons x l ih=>
  show ([Value.int .i64 x.1,.int .i64 x.2.1,.int .i64 x.2.2]++iA l).length=_;rw [List.length_append,ih,List.length_cons];simp only [List.length_cons,List.length_nil];omega
theorem uR {f:Nat} {s:List Value} {x:DataW H×List MemPlace} (h:DataW.trod enc Tryz.prog w base spare held f 22 s=some x) (J:(x.1.weights Tryz.prog 22).all (·≤reachBytes)=true):
  ∃(v:Value) (l:List (Int×Int×Int)),s=[v]∧bg w v l.length 3 (iA l)∧l.length * 24≤140737488351232∧∀o∈l,kN o.1∧kN o.2.1∧kN o.2.2:=by
 rcases open_slice Tryz.underlying22 h with ⟨rfl,rfl⟩ | ⟨a,b,B,m,n,D,K,rfl,_,F,L,q,rfl,I⟩
 ·exact ⟨_,[],rfl,⟨rfl,.inl ⟨rfl,_,_,rfl⟩⟩,by decide,fun _ h=>by cases h⟩
 ·have G:b≤m:=by rw [q];split <;> omega
  have A:=zx Tryz.underlying22 J;simp only [List.length_map,List.length_range,Co] at A
  have d:∀i,i < b→∃o:Int×Int×Int,(∀j,j < 3→w.cell? (a.add (i * 3+j))=[Value.int .i64 o.1,.int .i64 o.2.1,.int .i64 o.2.2][j]?)∧kN o.1∧kN o.2.1∧kN o.2.2:=fun i g=>by
   obtain ⟨C,t,E⟩:=I i (by omega);obtain ⟨o,e,r⟩:=FB E;rw [tW] at t;obtain ⟨_,_,c⟩:=World.cells?_some t;refine ⟨o,fun j y=>?_,r⟩;have:=c j y;rw [add_add] at this;rw [this,e]
  obtain ⟨S,u⟩:=choose_lt d;have p:((List.range b).map S).length=b:=by simp
  refine ⟨_,(List.range b).map S,rfl,?_,by rw [p];exact A,fun o r=>?_⟩
  ·rw [p];refine J4 (by decide) (by rw [Hv,p]) F fun j y=>?_;obtain ⟨k,i,z,g,rfl⟩:∃k i,k < b∧i < 3∧j=k * 3+i:=⟨j / 3,j % 3,by omega,by omega,by omega⟩
   rw [(u k z).1 i g,qd _ k i (by rw [p];exact z) g];simp
  ·obtain ⟨i,g,rfl⟩:=List.mem_map.1 r;exact (u i (List.mem_range.1 g)).2
end
theorem Hb:(Rows.laid_internal_strconv_uint64pow10:DataW Unit)=Lib.tabData .u64 Lib.pow10Tab:=by kernel_rfl
theorem CT:Rows.laid_unicode_utf8_first=Lib.firstData:=by kernel_rfl
theorem AW:(Rows.laid_unicode_utf8_acceptRanges:DataW Unit)=Lib.acceptData:=by kernel_rfl
theorem tX:Tryz.prog.cellsOf 5=1:=by kernel_rfl
theorem tV:Tryz.prog.cellsOf 313=2:=by kernel_rfl
theorem CJ:Tryz.prog.globalNamed "unicode/utf8.first"=some 2:=by kernel_rfl
theorem GM:Tryz.prog.globalNamed "unicode/utf8.acceptRanges"=some 3:=by kernel_rfl
theorem GN:Tryz.prog.globalNamed "internal/strconv.uint64pow10"=some 6:=by kernel_rfl
theorem DX:(Tryz.prog.globals[2]?).map (·.type)=some 311:=by kernel_rfl
theorem IQ:(Tryz.prog.globals[3]?).map (·.type)=some 314:=by kernel_rfl
theorem IT:(Tryz.prog.globals[6]?).map (·.type)=some 331:=by kernel_rfl
theorem EW {W:World} {b:List (String×DataW Unit)} (h:laidMet Tryz.prog b W) (F:("internal/strconv.uint64pow10",Rows.laid_internal_strconv_uint64pow10)∈b) (G:("unicode/utf8.acceptRanges",Rows.laid_unicode_utf8_acceptRanges)∈b) (I:("unicode/utf8.first",Rows.laid_unicode_utf8_first)∈b) (u:W.ShapedOpen Tryz.prog):iR W:=by
 have B:Lib.VarReads Tryz.prog W "internal/strconv.uint64pow10" Rows.laid_internal_strconv_uint64pow10:=Lib.laidMet.reads h F;have C:Lib.VarReads Tryz.prog W "unicode/utf8.acceptRanges" Rows.laid_unicode_utf8_acceptRanges:=Lib.laidMet.reads h G;have D:Lib.VarReads Tryz.prog W "unicode/utf8.first" Rows.laid_unicode_utf8_first:=Lib.laidMet.reads h I
 rw [Hb] at B;rw [AW] at C;rw [CT] at D;refine ⟨Bh u,?_,?_,?_⟩
 ·obtain ⟨g,t,v,m,p,n,e,a,o⟩:=B;obtain rfl:=Option.some.inj (GN.symm.trans n);obtain rfl:=Option.some.inj (IT.symm.trans e);unfold tw Lib.TabIs;rw [a,←Lib.cells_of_tab Tryz.underlying331 Tryz.underlying248 (by kernel_rfl) (by kernel_rfl) o]
 ·intro c E;obtain ⟨g,t,v,m,p,n,e,a,o⟩:=D;obtain rfl:=Option.some.inj (CJ.symm.trans n);obtain rfl:=Option.some.inj (DX.symm.trans e);have k:=Lib.cells_of_tab Tryz.underlying311 Tryz.underlying5 tX (by kernel_rfl) o;have:=World.var?_cell n a c;rw [this,←Array.getElem?_toList,k];simp [Lib.firstTab,E]
 ·intro i A;obtain ⟨g,t,v,m,p,n,e,a,o⟩:=C;obtain rfl:=Option.some.inj (GM.symm.trans n);obtain rfl:=Option.some.inj (IQ.symm.trans e);obtain ⟨s,d,q,r,z⟩:=Lib.array_elem Tryz.underlying314 o i A;simp only [List.getElem?_map,List.getElem?_range A,Option.map_some,Option.some.injEq] at r;subst r;rw [tV] at z
  have k:=Lib.ints_of_struct Tryz.underlying313 (fun j f l=>by
   match j,l with
   | 0,l=>simp at l;subst l;exact ⟨Tryz.underlying5,rfl,tX⟩
   | 1,l=>simp at l;subst l;exact ⟨Tryz.underlying5,rfl,tX⟩
   | j+2,l=>simp at l) (by rw [tV];rfl) z
  have x:=congrArg (·[0]?) k;have y:=congrArg (·[1]?) k;simp only [List.getElem?_take,List.getElem?_drop] at x y
  constructor
  ·rw [World.var?_cell n a (2 * i),←Array.getElem?_toList];simpa [Nat.mul_comm] using x
  ·rw [World.var?_cell n a (2 * i+1),←Array.getElem?_toList];simpa [Nat.mul_comm] using y
def Kd (l:List UInt8) (pp:Nat) (w:World):Prop:=∀W,Below w.heap.size w W→
 (Calls Tryz.prog 17 #[.pointer (some ⟨pp,0,none⟩)] W fun e W'=>e= .returned (.tuple #[.string (bs (l.take (bw l).2)),.int .i64 0])∧W=W')∧
 ((bw l).1.items.length≤1048576→Calls Tryz.prog 10 #[.pointer (some ⟨pp,0,none⟩)] W fun e W'=>∃v rows,e= .returned (.tuple #[v,.int .i64 0])∧iT W.heap.size W' v rows∧rows.map (·.1)=gA (bw l).1.items∧Below W.heap.size W W')
theorem Et {c:bX} {l:List UInt8} {w d:World} {e:Ending} (h:yt c l w e d):∃b,e= .returned (.tuple #[.pointer (some ⟨b,0,none⟩),.int .i64 0])∧Kd l b d∧(bw l).1.Ok∧Below w.heap.size w d:=by
 obtain ⟨K,E,b,r,p,q,s,o,j,g,a,m,n,i⟩:=h;exact ⟨b,j,fun W f=>⟨AR (g.below f).1,fun k=>yd (g.below f).1 a k⟩,a,i⟩
theorem Es {s:Nat} {w:World} {v:Value} {a:List (aX×Nat)} {l:List aX} (h:iT s w v a) (e:a.map (·.1)=l):nL w v l:=by
 have b:=h.mails.at;rw [List.map_map] at b;rw [←e];exact b
theorem yc (S:aa):(gA S.items).length≤S.items.length:=by
 unfold gA;have:=List.length_filter_le (fun m:aX=> !m.tos.isEmpty) (S.items.map fH.now);rw [List.length_map] at this;exact this
def Ff:List UInt8:=[77,65,73,76,32,70,82,79,77,58,60,109,101,64,104,101,114,101,46,111,114,103,62]
def Fg:List UInt8:=[82,67,80,84,32,84,79,58,60,122,64,97,46,111,114,103,62]
def nj:List UInt8:=[108,97,115,116]
def fK:List UInt8:=[109,101,64,104,101,114,101,46,111,114,103]
def de:List UInt8:=[122,64,97,46,111,114,103]
def Jf:List UInt8:=sn++[13,10]++(Ff++[13,10]++(Fg++[13,10]++(so++[13,10]++(nj++[13,10]++([46]++[13,10])))))
def ju (S:aa):aX:=eJ S fK [de] nj
def Hc:List UInt8:=[50,53,48,32,109,120,46,111,114,103,13,10,50,53,48,32,111,107,13,10,50,53,48,32,111,107,13,10,51,53,52,32,103,111,13,10]
def Fh (n:Nat):List UInt8:=[50,53,48,32,107,101,112,116,32]++Lib.itoa ((n:Int)+1)++[13,10]
def gi:bX:=dD 3 500 40
theorem Je:lS 3 500 40=gi:=by kernel_rfl
theorem Ji (S:aa) (a:List UInt8):cL gi (dI gi 1,S,a,[]) Jf=if jt gi a (ju S) then (br gi,S.plus (ju S),a++bJ (cA (ju S)),Hc++Fh S.items.length) else (br gi,S,a,Hc++CR):=by
 have j:cQ gi=[109,120,46,111,114,103]:=rfl;obtain ⟨c,d⟩:∃c,gi=c:=⟨_,rfl⟩;have k:c.most=4:=by rw [←d];rfl
 have i:c.size=501:=by rw [←d];rfl
 have p:dM c de=true:=by rw [←d];kernel_rfl
 rw [d] at j ⊢;clear d;have q:bn sn false=⟨6,[],0,[]⟩:=by kernel_rfl
 have r:bn Ff false=⟨9,fK,0,[]⟩:=by kernel_rfl
 have s:bn Fg false=⟨10,de,0,[]⟩:=by kernel_rfl
 have t:bn so false=⟨5,[],0,[]⟩:=by kernel_rfl
 have u:zK sn=true:=by kernel_rfl
 have v:zK Ff=true:=by kernel_rfl
 have w:zK Fg=true:=by kernel_rfl
 have x:zK so=true:=by kernel_rfl
 have y:zK nj=true:=by kernel_rfl
 have z:zK [46]=true:=by kernel_rfl
 have A:aO c (dI c 1) S a sn false=(br c,S,a,[[50,53,48,32]++cQ c++[13,10]]):=by
  show ((bz c (dI c 1) (bn sn false)).1,_,_,(bz c (dI c 1) (bn sn false)).2)=_;rw [q];rfl
 have B:aO c (br c) S a Ff false=({br c with tx:=some ⟨fK,[],none⟩},S,a,[jD]):=by
  show ((bz c (br c) (bn Ff false)).1,_,_,(bz c (br c) (bn Ff false)).2)=_;rw [r];have e:bz c (br c) ⟨9,fK,0,[]⟩=if c.size < ((0:Nat):Int) then (br c,[uw]) else ({br c with tx:=some ⟨fK,[],none⟩},[jD]):=rfl;rw [e,if_neg (by rw [i];decide)]
 have C:aO c {br c with tx:=some ⟨fK,[],none⟩} S a Fg false=({br c with tx:=some ⟨fK,[de],none⟩},S,a,[jD]):=by
  show ((bz c {br c with tx:=some ⟨fK,[],none⟩} (bn Fg false)).1,_,_,(bz c {br c with tx:=some ⟨fK,[],none⟩} (bn Fg false)).2)=_;rw [s];have e:bz c {br c with tx:=some ⟨fK,[],none⟩} ⟨10,de,0,[]⟩=({br c with tx:=some ⟨fK,cY [] c.most ((br c).nets || (br c).known || dM c de) de,none⟩},[b9 [] c.most ((br c).nets || (br c).known || dM c de) de]):=rfl;have m:((br c).nets || (br c).known || dM c de)=true:=by rw [p,Bool.or_true]
  have n:cY [] c.most true de=[de]:=by
   unfold cY;rw [if_neg (by decide),if_neg (by rw [k];decide),if_pos rfl];rfl
  have o:b9 [] c.most true de=jD:=by
   unfold b9;rw [if_neg (by decide),if_neg (by rw [k];decide),if_pos rfl];rfl
  rw [e,m,n,o]
 have D:aO c {br c with tx:=some ⟨fK,[de],none⟩} S a so false=({br c with tx:=some ⟨fK,[de],some ⟨[],false,false⟩⟩},S,a,[zl]):=by
  show ((bz c {br c with tx:=some ⟨fK,[de],none⟩} (bn so false)).1,_,_,(bz c {br c with tx:=some ⟨fK,[de],none⟩} (bn so false)).2)=_;rw [t];rfl
 have l:aO c {br c with tx:=some ⟨fK,[de],some ⟨[],false,false⟩⟩} S a nj false=({br c with tx:=some ⟨fK,[de],some (dW.add ⟨[],false,false⟩ nj false 501)⟩},S,a,[]):=by
  show dn c {br c with tx:=some ⟨fK,[de],some ⟨[],false,false⟩⟩} S a ⟨fK,[de],some ⟨[],false,false⟩⟩ ⟨[],false,false⟩ nj false=_;unfold dn;rw [if_neg (by decide),i]
 obtain ⟨b,g⟩:∃b,dW.add ⟨[],false,false⟩ nj false 501=b:=⟨_,rfl⟩;have f:b.text=nj:=by rw [←g];kernel_rfl
 have h:b.bad=false:=by rw [←g];kernel_rfl
 rw [g] at l
 have E:aO c {br c with tx:=some ⟨fK,[de],some b⟩} S a [46] false=if jt c a (ju S) then (br c,S.plus (ju S),a++bJ (cA (ju S)),[Fh S.items.length]) else (br c,S,a,[CR]):=by
  show kz c {br c with tx:=some ⟨fK,[de],some b⟩} S a ⟨fK,[de],some b⟩ b=_;unfold kz;rw [if_neg (by rw [h];decide),if_neg (by rw [i,f];decide)];show (if jt c a (eJ S fK [de] b.text) then _ else _)=_;rw [f];rfl
 unfold Jf;rw [gI c _ _ _ _ u rfl rfl,A,gI c _ _ _ _ v rfl rfl,B,gI c _ _ _ _ w rfl rfl,C,gI c _ _ _ _ x rfl rfl,D,gI c _ _ _ _ y rfl rfl,l,lQ c _ _ _ _ z rfl rfl,E,j]
 split
 ·show (_,_,_,_++[Fh S.items.length].flatten)=_;rw [show [Fh S.items.length].flatten=Fh S.items.length by simp]
  rfl
 ·rfl
def ie (g:GS):GS where
 S:=g.S.plus (ju g.S)
 recs:=g.recs++bJ (cA (ju g.S))
 l:=g.l++[some (br gi)]
 tk:=g.tk
 d:=oS g.S (g.S.plus (ju g.S)) g.d
 seats:=g.seats++[⟨1,false,false,false,[]⟩]
 mails:=g.mails++[⟨g.S.items.length+1,0,[],[de],[]⟩]
 bad:=g.bad
def uz:mK:=⟨fK,[de],some ⟨nj,true,false⟩⟩
theorem Hf:tA uz:=⟨.inr (by kernel_rfl),fun x c=>by rw [List.mem_singleton.1 c];kernel_rfl,by unfold uz;decide,by decide,fun b a=>by injection a with a;rw [←a];decide⟩
section
variable {g:GS}
theorem Em (S:aa) (a:List UInt8):aO gi {br gi with tx:=some uz} S a [46] false=if jt gi a (ju S) then (br gi,S.plus (ju S),a++bJ (cA (ju S)),[Fh S.items.length]) else (br gi,S,a,[CR]):=by
 show kz gi {br gi with tx:=some uz} S a uz ⟨nj,true,false⟩=_;unfold kz;rw [if_neg (by decide),if_neg (by show ¬(501:Int) < _;decide)];rfl
theorem zn:ij gi=true:=oW (by decide) (by decide) (by decide)
theorem ta:dX gi:=Fb (by decide) (by decide) (by decide)
theorem Hg (h:wo gi g) (j:jt gi g.recs (ju g.S)=true):wo gi (ie g)∧fF g.recs (ie g).recs:=by
 have l:gM gi {br gi with tx:=some uz} g.S g.recs:=⟨fun t e=>by injection e with e;rw [←e];exact ⟨Hf,by decide⟩,h.sok.time,h.sok.led,h.sok.ok,by show ([]:List UInt8).length≤102;decide⟩
 obtain ⟨f,_,_⟩:=iU zn l [46] false (by decide);obtain ⟨n,o⟩:=xE zn l h.kx [46] false;rw [Em,if_pos j] at f n o;have c:oK ((ie g).S,(ie g).recs):=⟨f.recs,f.len,f.time⟩;refine ⟨⟨c,fun m y q=>?_,fun t p=>?_,n⟩,o⟩
 ·rcases kU q with ⟨_,e⟩ | ⟨_,e⟩
  ·injection e with e;rw [←e];exact f
  ·exact (h.ses m y e).to c
 ·obtain ⟨a,b⟩:=h.talk t p;have d:=bq a
  have i:oj g.S (ie g).S:=by
   have k:=lP gi {br gi with tx:=some uz} g.S g.recs [46] false;rw [Em,if_pos j] at k;exact k
  exact ⟨(i.live d).2 a,by rw [i.stay _ d];exact b⟩
theorem Jh (h:hJ g):hJ (ie g):=by
 have b:(g.S.plus (ju g.S)).items.length=g.S.items.length+1:=dv ..;refine ⟨by show (g.seats++[_]).length=(g.l++[_]).length;rw [List.length_append,List.length_append,h.len];rfl,fun m y o g1 g2=>?_,h.bad,fun m a=>?_,fun m a=>?_,?_,fun i c=>?_⟩
 ·rcases kU g1 with ⟨j,l⟩ | ⟨j,l⟩
  ·rcases kU g2 with ⟨k,d⟩ | ⟨k,d⟩
   ·rw [←l,←d];exact ⟨rfl,rfl,rfl,rfl,rfl,rfl,Dk ta.nets (addr:=1),(fun t r=>by cases r),by decide,by decide⟩
   ·rw [h.len] at j;omega
  ·rcases kU g2 with ⟨k,d⟩ | ⟨k,d⟩
   ·rw [h.len] at j;omega
   ·exact h.seat m y o l d
 ·show m.id≤(g.S.plus (ju g.S)).items.length;rw [b]
  rcases List.mem_append.1 a with a | a
  ·have:=h.ids m a;omega
  ·rw [List.mem_singleton.1 a];exact Nat.le_refl _
 ·rcases List.mem_append.1 a with a | a
  ·exact h.tos m a
  ·rw [List.mem_singleton.1 a];exact (by decide:[de].length≤10)
 ·show (g.mails++[_]).length≤(g.S.plus (ju g.S)).items.length;rw [b,List.length_append,List.length_singleton];have:=h.more;omega
 ·have c:i < (g.S.plus (ju g.S)).items.length:=c;show (∀m∈g.mails++[_],m.id=i+1→∀t∈((g.S.plus (ju g.S)).mailOf i).tos,t∈m.tos)∧((∀m∈g.mails++[_],m.id≠i+1)→xu ((g.S.plus (ju g.S)).mailOf i));rw [b] at c
  by_cases f:i < g.S.items.length
  ·rw [je f];obtain ⟨p,q⟩:=h.told i f;refine ⟨fun m a e=>?_,fun n=>q fun m a=>n m (List.mem_append.2 (.inl a))⟩
   rcases List.mem_append.1 a with a | a
   ·exact p m a e
   ·rw [List.mem_singleton.1 a] at e;have e:g.S.items.length+1=i+1:=e;omega
  ·obtain rfl:i=g.S.items.length:=by omega
   rw [dN];refine ⟨fun m a e=>?_,fun n=>absurd rfl (n _ (List.mem_append.2 (.inr (List.mem_singleton.2 rfl))))⟩
   rcases List.mem_append.1 a with a | a
   ·have:=h.ids m a;omega
   ·rw [List.mem_singleton.1 a];exact fun y s=>s
end
theorem BL {l:List UInt8} (h:∀x∈l,x≠13) (r:List UInt8):gf (l++[13,10]++r)=(l,r):=by
 have b:hZ (l++[13,10]++r) l.length=true:=by
  unfold hZ;rw [List.append_assoc,List.getElem?_append_right (Nat.le_refl _),List.getElem?_append_right (Nat.le_succ l.length),Nat.sub_self,show l.length.succ - l.length=1 by omega]
  rfl
 rw [yh b fun j a=>?_]
 ·rw [List.append_assoc,List.take_left,show l.length+2=(l++[13,10]).length by simp,←List.append_assoc,List.drop_left]
 ·unfold hZ;rw [List.append_assoc,List.getElem?_append_left a,List.getElem?_eq_getElem a];have:=h _ (List.getElem_mem a);simp [this]
theorem xB:∀(k n:Nat),n < 10 ^ (k+1)→∀x∈Lib.decDigits n,x≠13
 | 0,n,h=>by
  have h:n < 10:=by omega
  rw [Lib.decDigits,dif_pos h];intro x a e;rw [List.mem_singleton.1 a] at e;have:=congrArg UInt8.toNat e;rw [UInt8.toNat_ofNat'] at this;have:(48+n) % 256=13:=this;omega
 | k+1,n,h=>by
  have b:∀d,d < 10→(UInt8.ofNat (48+d))≠13:=fun d f e=>by
   have:=congrArg UInt8.toNat e;rw [UInt8.toNat_ofNat'] at this;have:(48+d) % 256=13:=this;omega
  by_cases c:n < 10
  ·rw [Lib.decDigits,dif_pos c];intro x a;rw [List.mem_singleton.1 a];exact b n c
  ·rw [Lib.decDigits,dif_neg c];intro x a
   rcases List.mem_append.1 a with a | a
   ·exact xB k (n / 10) (by rw [Nat.pow_succ] at h;omega) x a
   ·rw [List.mem_singleton.1 a];exact b _ (Nat.mod_lt _ (by decide))
def uy (n:Nat):List UInt8:=[50,53,48,32,107,101,112,116,32]++Lib.itoa (n:Int)
def JH:List UInt8:=[52,53,50,32,114,111,111,109]
theorem AQ (n:Nat):Lib.itoa (n:Int)=Lib.decDigits n:=by
 unfold Lib.itoa;rw [if_neg (by omega),Int.toNat_natCast]
theorem Hd (n:Nat):∀x∈uy n,x≠13:=fun x a=>by
 rcases List.mem_append.1 a with a | a
 ·exact (by decide:∀y∈([50,53,48,32,107,101,112,116,32]:List UInt8),y≠13) x a
 ·rw [AQ] at a;exact xB n n (Nat.lt_of_lt_of_le (Nat.lt_pow_self (by decide:1 < 10)) (Nat.pow_le_pow_right (by decide) (Nat.le_succ n))) x a
theorem xP (n:Nat):kB (uy n)=n:=by
 have a:(([50,53,48,32,107,101,112,116,32]:List UInt8).drop 4).foldl mH 0=0:=by decide
 obtain ⟨k,c⟩:∃k,n < 10 ^ (k+1):=⟨n,Nat.lt_of_lt_of_le (Nat.lt_pow_self (by decide:1 < 10)) (Nat.pow_le_pow_right (by decide) (Nat.le_succ n))⟩;obtain ⟨e,b⟩:=o8 k n 0 c;unfold kB uy;rw [AQ,List.drop_append_of_le_length (by decide),List.foldl_append,a,b,Nat.zero_mul,Nat.zero_add]
theorem xO {n:Nat} (h:n≤4294967295):9≤(uy n).length∧(uy n).length≤19:=by
 have:=ur (n:=(n:Int)) (by omega) (by omega);unfold uy;rw [List.length_append];have:([50,53,48,32,107,101,112,116,32]:List UInt8).length=9:=rfl;omega
def js (ls:List (List UInt8)):List UInt8:=ls.flatMap (·++[13,10])
theorem DJ {l:List UInt8} (h:∀x∈l,x≠13) (a:List (List UInt8)):gf (js (l::a))=(l,js a):=by
 unfold js;rw [List.flatMap_cons];exact BL h _
def AX (F:List UInt8):List (List UInt8):=[[50,53,48,32,109,120,46,111,114,103],[50,53,48,32,111,107],[50,53,48,32,111,107],[51,53,52,32,103,111],F]
theorem uA (F:List UInt8):Hc++(F++[13,10])=js (AX F):=by
 unfold js AX Hc;simp
theorem He (S:aa):(cA (ju S)).length≤100:=by
 have e:cA (ju S)=77::(az 4 (S.items.length+1)++(az 4 S.time++(jC fK++(az 1 [de].length++(eE [de]++(az 2 nj.length++nj)))))):=rfl;have a:(jC fK).length=12:=by kernel_rfl
 have b:(eE [de]).length=8:=by kernel_rfl
 have c:nj.length=4:=rfl;rw [e];simp only [List.length_cons,List.length_append,bf,a,b,c];omega
theorem Hk {S:aa} {a:List UInt8} (h:jt gi a (ju S)=false):999800 < a.length:=by
 unfold jt at h;have h:(1000000:Int) < ((a.length+(8+(cA (ju S)).length):Nat):Int):=of_decide_eq_true ((Bool.not_eq_false' ..).mp h);have:=He S;omega
theorem Jg {E own:Nat→Prop} {s b:Nat} {c:bX} {w:World} {n i:Value} {D:List (ca×Value)} {j:List (aX×Value)} {g:GS} (h:gX E own s b c w n i D j g) (u:j.length≤1048576) (N:Nat):
  ∃f a d,(Builtin.append_ #[35,35] 35 #[i,.slice (some ⟨w.heap.size+1,0,none⟩) 1 1]).run Tryz.prog ((w.alloc (.cells #[.string (bs de)] 9)).alloc (.cells #[.int .i64 (N:Int),.int .i64 0,.string ⟨#[]⟩,.slice (some ⟨w.heap.size,0,none⟩) 1 1,.string ⟨#[]⟩] 45))= .ok (.slice (some ⟨f,0,none⟩) (j.length+1) a) d∧d.cell? ⟨b,11,none⟩=some i∧d.frozen? ⟨b,11,none⟩=false∧cX E own s b c w n i {g with mails:=g.mails++[⟨N,0,[],[de],[]⟩]} (d.setCell ⟨b,11,none⟩ (.slice (some ⟨f,0,none⟩) (j.length+1) a)):=by
 have l:Below w.heap.size w (w.alloc (.cells #[.string (bs de)] 9)):=(Below.refl _ _).alloc (Nat.le_refl _) _;have p:=heap_alloc_new w (.cells #[.string (bs de)] 9);have q:(w.alloc (.cells #[.string (bs de)] 9)).heap.size=w.heap.size+1:=by simp
 obtain ⟨W,o⟩:∃W,w.alloc (.cells #[.string (bs de)] 9)=W:=⟨_,rfl⟩;rw [o] at l p q;have t:=h.below l
 have v:iE E own b n i W [de] (.slice (some ⟨w.heap.size,0,none⟩) 1 1):=by
  refine ⟨vE p rfl,fun k e=>?_⟩;have e:w.heap.size=k:=by simpa [Value.ownBlock] using e
  subst e;refine ⟨by omega,fun e=>?_,fun e=>?_,fun e=>?_⟩
  ·have:=h.post.elt e;omega
  ·have:=h.post.lt e;omega
  ·have:=(h.off _ e).1;omega
 obtain ⟨f,a,d,r,x,y,A,B,C⟩:=t.appM (m:=⟨N,0,[],[de],[]⟩) rfl v u;rw [q] at r;rw [o]
 exact ⟨f,a,d,r,x,y,cX.from l (cX.turned B (fun k e=>by
  rcases e with e | e | e
  ·exact .inl (.inl e)
  ·exact .inl (.inr (.inl e))
  ·have e:f=k:=by simpa [Value.ownBlock] using e
   rw [←e]
   exact C.imp (fun z=> .inr (.inr z)) id) (cX.refl A))⟩
theorem CU (n:Nat):(((bs (uy n)).extract 0 9).toList == [50,53,48,32,107,101,112,116,32])=true:=by
 rw [ByteArray.toList_eq,Lib.extract_data,aI];show ((uy n).extract 0 9 == _)=true;unfold uy;rw [List.extract_eq_take_drop,List.drop_zero,List.take_append_of_le_length (by decide)];rfl
end Go.Proofs.YtofpegbpgkkgkaaGreatDoor
