import Derived.Test.YtofpegbpgkkgkaaGreatDoorS21
namespace Go.Proofs.YtofpegbpgkkgkaaGreatDoor
set_option maxHeartbeats 8000000
set_option maxRecDepth 1000000
open Go.RowKit
theorem FI:bw []=(⟨[],0⟩,0):=by kernel_rfl
theorem kl.rowM {w:World} {v:Value} {l:List UInt8} (h:kl w v l):dT w v l:=by
 obtain ⟨g,a,b,z,e,k,_,c,d,f,i,j⟩:=h;exact .inr ⟨g,a,b,z,e,k,.inr c,d,f,i,j⟩
def yt (c:bX) (l:List UInt8) (w:World) (e:Ending) (w':World):Prop:=
 ∃(K:Kn) (E:Nat→Prop) (pp pb mb:Nat) (q:Nat→Nat) (vr:Value),K.tk= .pointer none∧e= .returned (.tuple #[.pointer (some ⟨pp,0,none⟩),.int .i64 0])∧dR E pp pb mb c w' q vr (bw l).1 (l.take (bw l).2) (.slice none 0 0) []∧(bw l).1.Ok∧(∀k,E k→yX k∨w.heap.size≤k)∧(∀k,an w' pb mb q vr (bw l).1 k→w.heap.size≤k)∧Below w.heap.size w w'
theorem qU (c:bX) (G H I J:Value) (l:List UInt8) (w:World) (h:jZ w c G H I J) (hz:xt c) (d:ij c=true) (hg:iR w) (hl:l.length≤536870912):
  Calls Tryz.prog 18 #[.agg #[.string c.host,G,H,I,.int .i64 c.most,.int .i64 c.size,J,.int .i64 c.life,.int .i64 c.room],.string (bs l)] w (yt c l w):=by
 obtain ⟨M,t⟩:∃M:World,w.alloc (.cells #[.string c.host,G,H,I,.int .i64 c.most,.int .i64 c.size,J,.int .i64 c.life,.int .i64 c.room] 30)=M:=⟨_,rfl⟩;have Q:Below w.heap.size w M:=by rw [←t];exact (Below.refl _ _).alloc (Nat.le_refl _) _
 obtain ⟨m,hm⟩:=hg.len;have b0:=aC hm;have m0:M.cell? ⟨0,0,none⟩=some (.int .i64 m):=(Q.cell (by exact b0)).trans hm;have a2:=Lib.hid (EH c G H I J m M (h.below Q) hz m0);have R:=Lib.hid Q;have HM:=Lib.hid m0;have HG:=Lib.hid hg;have a7:=Lib.hid t;have a8:Hid (M.heap[w.heap.size]? =some (.cells #[.string c.host,G,H,I,.int .i64 c.most,.int .i64 c.size,J,.int .i64 c.life,.int .i64 c.room] 30 (0,0))):=Lib.hid (by rw [←t];exact heap_alloc_new w _);have a1:=Lib.hid (h.below Q);have a4:=Lib.hid d;clear Q m0 t h hm hg;go_enter Tryz.func18,Tryz.ntmps18;go_wp2_with fail
 rw [a7.out];refine a2.out.mono ?_;intro e j hE;obtain ⟨he,n⟩:=hE;subst he;have B2:=Lib.hid (R.out.trans (n.mono R.out.size));rw [d];simp only [JX];have m2:j.cell? ⟨0,0,none⟩=some (.int .i64 m):=(n.cell (by exact aC HM.out)).trans HM.out;have T:=Lib.hid m2;have p:=ae n a8.out;have y0:j.cell? ⟨w.heap.size,0,none⟩=some (.string c.host):=by rw [Lib.cell_of_heap p];rfl
 have y1:j.cell? ⟨w.heap.size,1,none⟩=some G:=by rw [Lib.cell_of_heap p];rfl
 have y2:j.cell? ⟨w.heap.size,2,none⟩=some H:=by rw [Lib.cell_of_heap p];rfl
 have y3:j.cell? ⟨w.heap.size,3,none⟩=some I:=by rw [Lib.cell_of_heap p];rfl
 have y4:j.cell? ⟨w.heap.size,4,none⟩=some (.int .i64 c.most):=by rw [Lib.cell_of_heap p];rfl
 have y5:j.cell? ⟨w.heap.size,5,none⟩=some (.int .i64 c.size):=by rw [Lib.cell_of_heap p];rfl
 have y6:j.cell? ⟨w.heap.size,6,none⟩=some J:=by rw [Lib.cell_of_heap p];rfl
 have y7:j.cell? ⟨w.heap.size,7,none⟩=some (.int .i64 c.life):=by rw [Lib.cell_of_heap p];rfl
 have y8:j.cell? ⟨w.heap.size,8,none⟩=some (.int .i64 c.room):=by rw [Lib.cell_of_heap p];rfl
 have S:=Lib.hid (Gw c G H I J j (a1.out.below n) (kg d));have b3:w.heap.size≤j.heap.size:=B2.out.size;clear d n m2 p;go_wp2_with fail
 refine S.out.mono ?_;rintro e P ⟨uD,uN,uU,uW,rfl,f,F,X⟩;obtain ⟨aD,cD,eD⟩:=aE f.1;obtain ⟨aN,cN,eN⟩:=aE f.2.1;obtain ⟨aU,cU,eU⟩:=aE f.2.2.1;obtain ⟨aW,cW,eW⟩:=aE f.2.2.2;subst eD eN eU eW;have a6:=Lib.hid (Ab l m P hl ((F.cell (by exact aC T.out)).trans T.out));have B3:=Lib.hid (B2.out.trans (F.mono b3));have b4:w.heap.size≤P.heap.size:=B3.out.size;have a0:=Lib.hid f;have s:=Lib.hid X;clear F f S y0 y1 y2 y3 y4 y5 y6 y7 y8 X;go_wp2_with fail
 refine a6.out.mono ?_;rintro e a ⟨Z,mb,q,vr,rfl,hA,hO,hR,hG,W⟩;have L:=Lib.hid hA;have a5:=Lib.hid hO;have HR:=Lib.hid hR.rowM;have a3:=Lib.hid hG;have E:=Lib.hid W;clear hA hO hR W hG;go_wp2_with fail
 go_ret2
 obtain ⟨C,O⟩:∃C:Array Value,#[.string c.host,.slice aD c.doms.length cD,.slice aN c.nets.length cN,.slice aU c.users.length cU,.int .i64 c.most,.int .i64 c.size,.slice aW c.waits.length cW,.int .i64 c.life,.int .i64 c.room,.pointer (some ⟨Z,0,none⟩),.slice none 0 0,.pointer none]=C:=⟨_,rfl⟩;rw [O];have X5:=heap_alloc_new a (.cells C 88);have u:Below a.heap.size a (a.alloc (.cells C 88)):=(Below.refl _ _).alloc (Nat.le_refl _) _;have b6:(a.alloc (.cells C 88)).heap.size=a.heap.size+1:=by simp
 obtain ⟨U,a9⟩:∃U:World,a.alloc (.cells C 88)=U:=⟨_,rfl⟩;rw [a9] at X5 u b6 ⊢;have b5:P.heap.size≤a.heap.size:=E.out.size;have B5:Below w.heap.size w U:=(B3.out.trans (E.out.mono b4)).trans (u.mono (by omega));have V:Below P.heap.size P U:=E.out.trans (u.mono b5)
 obtain ⟨D,hD⟩:∃D:Nat→Int×Int,∀i,i∈(bw l).1.live→∃v,dL a (q i) ((bw l).1.mailOf i).time ((bw l).1.mailOf i).frm v ((bw l).1.mailOf i).body (D i):=Classical.axiomOfChoice (r:=fun (i:Nat) (x:Int×Int)=>i∈(bw l).1.live→∃v,dL a (q i) ((bw l).1.mailOf i).time ((bw l).1.mailOf i).frm v ((bw l).1.mailOf i).body x) (fun i=>by
  by_cases A:i∈(bw l).1.live
  ·obtain ⟨_,v,x,b,_⟩:=L.out.mail i A;exact ⟨x,fun _=>⟨v,b⟩⟩
  ·exact ⟨(0,0),fun e=>absurd e A⟩)
 let K:Kn:=⟨D,(bw l).1.items.length,.pointer none⟩
 have y:fv a Z mb q vr (bw l).1 (l.take (bw l).2):=⟨L.out.mono (Nat.zero_le _),HR.out,fun i A=>by
  obtain ⟨v,b⟩:=hD i A;have e:bV (bw l).1 i=D i:=if_pos (bq A)
  exact ⟨_,b,by rw [e];rfl,by rw [e];rfl⟩,Nat.le_refl _⟩
 have B:∀k,an a Z mb q vr (bw l).1 k→P.heap.size≤k∧k < a.heap.size:=fun k e=>⟨by
  rcases e with (e | e | ⟨i,A,e | ⟨D,z,N,Y⟩⟩) | e
  ·rw [e];exact L.out.pbb
  ·rw [e];exact L.out.mbb
  ·rw [e];exact (L.out.mail i A).1
  ·obtain ⟨_,v,x,b,cc⟩:=L.out.mail i A;unfold dL at b;rw [b] at N;injection N with N;injection N with N;rw [←N] at Y;have Y:v.ownBlock=some k:=Y;exact (cc.lt k Y).1
  ·exact a3.out k e,an.lt y e⟩
 obtain ⟨b1,b2⟩:=y.chg (aH.below u:aH (fun _=>False) a U) (fun _ _ e=>e);have o:∀k,yX k→k < w.heap.size:=fun k e=>HG.out.lt e;refine ⟨K,fun k=>yX k∨k=a.heap.size∨(Value.slice aD c.doms.length cD).ownBlock=some k∨(Value.slice aN c.nets.length cN).ownBlock=some k∨(Value.slice aU c.users.length cU).ownBlock=some k∨(Value.slice aW c.waits.length cW).ownBlock=some k,a.heap.size,Z,mb,q,vr,rfl,rfl,⟨⟨_,_,_,_,⟨⟨C,X5,by rw [←O];rfl⟩,a0.out.below V,a4.out⟩,fun k e=>⟨.inr (.inr e),by have:=s.out k e;omega⟩⟩,HG.out.below B5,fun k e=> .inl e,fun e=>by have:=o _ e;omega,.inr (.inl rfl),fun k e=>?_,⟨C,X5,by rw [←O];rfl,by rw [←O];rfl,by rw [←O];rfl,by rw [←O];rfl⟩,b1,World.ownsRow_nil _ _ _ _,fun k e x=>?_,fun g e=>by cases e⟩,a5.out,fun k e=>?_,fun k e=>by have:=B k (b2 k e);omega,B5⟩
 ·rcases e with e | e | e
  ·have:=o k e;omega
  ·omega
  ·have:=s.out k e;omega
 ·have hk:=B k (b2 k x)
  rcases e with e | e | e
  ·have:=o k e;omega
  ·omega
  ·have:=s.out k e;omega
 ·rcases e with e | e | e
  ·exact .inl e
  ·exact .inr (by omega)
  ·exact .inr (by have:=s.out k e;omega)
def dD (a b d:Int):bX where
 host:=bs [109,120,46,111,114,103]
 doms:=[bs [97,46,111,114,103],bs [66,46,110,101,116]]
 nets:=[(256,24)]
 users:=[(bs [117],bs [119]),(bs [118],bs [108,111,110,103,32,119,111,114,100])]
 most:=1+a
 size:=1+b
 waits:=[1,5,2]
 life:=1+d
 room:=1000000
def lS (x y z:Int):bX:=dD (cM x 10) (cM y 1000) (cM z 60)
theorem oW {a b d:Int} (g:0≤a∧a < 10) (h:0≤b∧b < 1000) (i:0≤d∧d < 60):ij (dD a b d)=true:=by
 have c:(jj (dD a b d).host.data.toList && oq (dD a b d).doms && nr (dD a b d).nets && kG (dD a b d).users)=true:=by kernel_rfl
 have e:kI (dD a b d).waits=true:=by kernel_rfl
 have f:cF (dD a b d).room 0 1000000=true:=by kernel_rfl
 have w:∀n x y:Int,x≤n→n≤y→cF n x y=true:=fun n x y c e=>by unfold cF;rw [decide_eq_true c,decide_eq_true e];rfl
 unfold ij;rw [c,e,f,w (dD a b d).most 1 10 (by show 1≤1+a;omega) (by show 1+a≤10;omega),w (dD a b d).size 1 1000 (by show 1≤1+b;omega) (by show 1+b≤1000;omega),w (dD a b d).life 1 1000000000 (by show 1≤1+d;omega) (by show 1+d≤1000000000;omega)];rfl
def Ks:Array Value:=#[.string ⟨#[]⟩,.slice none 0 0,.slice none 0 0,.slice none 0 0,.int .i64 0,.int .i64 0,.slice none 0 0,.int .i64 0,.int .i64 0]
theorem vE {w:World} {b n c:Nat} {a:Array Value} {t:TypeId} {z:Nat×Nat} (h:w.heap[b]? =some (.cells a t z)) (d:a.size=n * c):bg w (.slice (some ⟨b,0,none⟩) n n) n c a.toList:=by
 refine ⟨by simpa using d,.inr ⟨b,0,n,rfl,Nat.le_refl _,fun j e=>?_⟩⟩
 rw [Nat.zero_add,Lib.cell_of_heap h,Array.getElem?_toList]
theorem zj (x y z:Int) (w:World) (hx: -9223372036854775808≤x∧x≤9223372036854775807) (hy: -9223372036854775808≤y∧y≤9223372036854775807) (hz: -9223372036854775808≤z∧z≤9223372036854775807):
  Calls Tryz.prog 8 #[.int .i64 x,.int .i64 y,.int .i64 z] w fun e A=>∃vD vN vU vW,e= .returned (.agg #[.string (lS x y z).host,vD,vN,vU,.int .i64 (lS x y z).most,.int .i64 (lS x y z).size,vW,.int .i64 (lS x y z).life,.int .i64 (lS x y z).room])∧jZ A (lS x y z) vD vN vU vW∧Below w.heap.size w A:=by
 obtain ⟨a,Q⟩:∃a,cM x 10=a:=⟨_,rfl⟩;obtain ⟨b,R⟩:∃b,cM y 1000=b:=⟨_,rfl⟩;obtain ⟨d,S⟩:∃d,cM z 60=d:=⟨_,rfl⟩;have ba:=dt x (n:=10) (by decide);have bb:=dt y (n:=1000) (by decide);have bd:=dt z (n:=60) (by decide);rw [Q] at ba;rw [R] at bb;rw [S] at bd;have P:lS x y z=dD a b d:=by unfold lS;rw [Q,R,S]
 rw [P];have w1:IntKind.i64.wrap (1+a)=1+a:=by rw [IntKind.wrap_i64];omega
 have w2:IntKind.i64.wrap (1+b)=1+b:=by rw [IntKind.wrap_i64];omega
 have w3:IntKind.i64.wrap (1+d)=1+d:=by rw [IntKind.wrap_i64];omega
 have U:Hid (∀W:World,Calls Tryz.prog 20 #[.int .i64 x,.int .i64 10] W fun e A=>e= .returned (.int .i64 a)∧W=A):=Lib.hid (fun W=>by have:=bZ x 10 W hx.1 hx.2 (by decide) (by decide);rw [Q] at this;exact this);have V:Hid (∀W:World,Calls Tryz.prog 20 #[.int .i64 y,.int .i64 1000] W fun e A=>e= .returned (.int .i64 b)∧W=A):=Lib.hid (fun W=>by have:=bZ y 1000 W hy.1 hy.2 (by decide) (by decide);rw [R] at this;exact this);have X:Hid (∀W:World,Calls Tryz.prog 20 #[.int .i64 z,.int .i64 60] W fun e A=>e= .returned (.int .i64 d)∧W=A):=Lib.hid (fun W=>by have:=bZ z 60 W hz.1 hz.2 (by decide) (by decide);rw [S] at this;exact this);clear Q R S P ba bb bd hx hy hz;go_enter Tryz.func8,Tryz.ntmps8;go_wp2_with fail
 obtain ⟨r,i⟩:∃W:World,w.alloc (.cells #[.string ⟨#[]⟩,.slice none 0 0,.slice none 0 0,.slice none 0 0,.int .i64 0,.int .i64 0,.slice none 0 0,.int .i64 0,.int .i64 0] 30)=W:=⟨_,rfl⟩;have za:r.heap.size=w.heap.size+1:=by rw [←i];simp
 have xa:r.heap[w.heap.size]? =some (.cells Ks 30 (0,0)):=by rw [←i];exact heap_alloc_new w _
 have M:Below w.heap.size w r:=by rw [←i];exact (Below.refl _ _).alloc (Nat.le_refl _) _
 rw [i];obtain ⟨o,k⟩:∃W:World,r.alloc (.cells #[.string ⟨#[97,46,111,114,103]⟩,.string ⟨#[66,46,110,101,116]⟩] 9)=W:=⟨_,rfl⟩;have zb:o.heap.size=w.heap.size+2:=by rw [←k];simp [za]
 have N:Below r.heap.size r o:=by rw [←k];exact (Below.refl _ _).alloc (Nat.le_refl _) _
 have xb:o.heap[w.heap.size+1]? =some (.cells #[.string ⟨#[97,46,111,114,103]⟩,.string ⟨#[66,46,110,101,116]⟩] 9 (0,0)):=by rw [←k,←za];exact heap_alloc_new r _
 rw [k];obtain ⟨u,l⟩:∃W:World,o.alloc (.cells #[.int .i64 256,.int .i64 24] 77)=W:=⟨_,rfl⟩;have zc:u.heap.size=w.heap.size+3:=by rw [←l];simp [zb]
 have Z:Below o.heap.size o u:=by rw [←l];exact (Below.refl _ _).alloc (Nat.le_refl _) _
 have xc:u.heap[w.heap.size+1+1]? =some (.cells #[.int .i64 256,.int .i64 24] 77 (0,0)):=by rw [←l,show w.heap.size+1+1=o.heap.size by omega];exact heap_alloc_new o _
 rw [l];obtain ⟨p,m⟩:∃W:World,u.alloc (.cells #[.string ⟨#[117]⟩,.string ⟨#[119]⟩,.string ⟨#[118]⟩,.string ⟨#[108,111,110,103,32,119,111,114,100]⟩] 79)=W:=⟨_,rfl⟩;have zd:p.heap.size=w.heap.size+4:=by rw [←m];simp [zc]
 have f:Below u.heap.size u p:=by rw [←m];exact (Below.refl _ _).alloc (Nat.le_refl _) _
 have xd:p.heap[w.heap.size+1+1+1]? =some (.cells #[.string ⟨#[117]⟩,.string ⟨#[119]⟩,.string ⟨#[118]⟩,.string ⟨#[108,111,110,103,32,119,111,114,100]⟩] 79 (0,0)):=by rw [←m,show w.heap.size+1+1+1=u.heap.size by omega];exact heap_alloc_new u _
 rw [m];have B:Below r.heap.size r p:=(N.trans (Z.mono (by omega))).trans (f.mono (by omega));have O:Below o.heap.size o p:=Z.trans (f.mono (by omega));have D:=Lib.hid (ft B xa);have F:=Lib.hid (ft O xb);have H:=Lib.hid (ft f xc);have J:=Lib.hid xd;have C:=Lib.hid (M.trans (B.mono (by omega)));clear i k l m za xa M zb xb N zc Z xc f xd B O;refine (U.out _).mono ?_;rintro e w1 ⟨rfl,rfl⟩;go_wp2_with fail
 refine (V.out _).mono ?_;rintro e w1 ⟨rfl,rfl⟩;go_wp2_with fail
 obtain ⟨c,s⟩:∃W:World,p.alloc (.cells #[.int .i64 1,.int .i64 5,.int .i64 2] 3)=W:=⟨_,rfl⟩;have be:Below p.heap.size p c:=by rw [←s];exact (Below.refl _ _).alloc (Nat.le_refl _) _
 have xe:c.heap[p.heap.size]? =some (.cells #[.int .i64 1,.int .i64 5,.int .i64 2] 3 (0,0)):=by rw [←s];exact heap_alloc_new p _
 rw [s];refine (X.out _).mono ?_;rintro e w1 ⟨rfl,rfl⟩;have g:=ft be D.out;have E:=Lib.hid g;have G:=Lib.hid (ft be F.out);have I:=Lib.hid (ft be H.out);have K:=Lib.hid (ft be J.out);have Y:=Lib.hid xe;have T:=Lib.hid (C.out.trans (be.mono (by omega)));have m0:c.cell? ⟨w.heap.size,0,none⟩=some (.string ⟨#[]⟩):=by rw [Lib.cell_of_heap g];rfl
 have m1:c.cell? ⟨w.heap.size,1,none⟩=some (.slice none 0 0):=by rw [Lib.cell_of_heap g];rfl
 have m2:c.cell? ⟨w.heap.size,2,none⟩=some (.slice none 0 0):=by rw [Lib.cell_of_heap g];rfl
 have m3:c.cell? ⟨w.heap.size,3,none⟩=some (.slice none 0 0):=by rw [Lib.cell_of_heap g];rfl
 have m4:c.cell? ⟨w.heap.size,4,none⟩=some (.int .i64 0):=by rw [Lib.cell_of_heap g];rfl
 have m5:c.cell? ⟨w.heap.size,5,none⟩=some (.int .i64 0):=by rw [Lib.cell_of_heap g];rfl
 have m6:c.cell? ⟨w.heap.size,6,none⟩=some (.slice none 0 0):=by rw [Lib.cell_of_heap g];rfl
 have m7:c.cell? ⟨w.heap.size,7,none⟩=some (.int .i64 0):=by rw [Lib.cell_of_heap g];rfl
 have m8:c.cell? ⟨w.heap.size,8,none⟩=some (.int .i64 0):=by rw [Lib.cell_of_heap g];rfl
 have ff:∀j:Nat,c.frozen? ⟨w.heap.size,j,none⟩=false:=fun j=>Lib.frozen_of_heap g j;clear be xe s g D F H J C;go_wp2_with fail
 obtain ⟨h,t⟩:∃W:World,(((((((((c.setCell ⟨w.heap.size,0,none⟩ (.string ⟨#[109,120,46,111,114,103]⟩)).setCell ⟨w.heap.size,1,none⟩ (.slice (some ⟨w.heap.size+1,0,none⟩) 2 2)).setCell ⟨w.heap.size,2,none⟩ (.slice (some ⟨w.heap.size+1+1,0,none⟩) 1 1)).setCell ⟨w.heap.size,3,none⟩ (.slice (some ⟨w.heap.size+1+1+1,0,none⟩) 2 2)).setCell ⟨w.heap.size,4,none⟩ (.int .i64 (1+a))).setCell ⟨w.heap.size,5,none⟩ (.int .i64 (1+b))).setCell ⟨w.heap.size,6,none⟩ (.slice (some ⟨w.heap.size+4,0,none⟩) 3 3)).setCell ⟨w.heap.size,7,none⟩ (.int .i64 (1+d))).setCell ⟨w.heap.size,8,none⟩ (.int .i64 1000000))=W:=⟨_,rfl⟩;rw [t];have L:aL w.heap.size c h:=by rw [←t];exact ((((((((((aL.refl _ _).setCell _).setCell _).setCell _).setCell _).setCell _).setCell _).setCell _).setCell _).setCell _)
 have q:h.heap[w.heap.size]? =some (.cells #[.string ⟨#[109,120,46,111,114,103]⟩,.slice (some ⟨w.heap.size+1,0,none⟩) 2 2,.slice (some ⟨w.heap.size+1+1,0,none⟩) 1 1,.slice (some ⟨w.heap.size+1+1+1,0,none⟩) 2 2,.int .i64 (1+a),.int .i64 (1+b),.slice (some ⟨w.heap.size+4,0,none⟩) 3 3,.int .i64 (1+d),.int .i64 1000000] 30 (0,0)):=by
  rw [←t];have z0:=gU (j:=0) (v:= .string ⟨#[109,120,46,111,114,103]⟩) E.out (A':=#[.string ⟨#[109,120,46,111,114,103]⟩,.slice none 0 0,.slice none 0 0,.slice none 0 0,.int .i64 0,.int .i64 0,.slice none 0 0,.int .i64 0,.int .i64 0]) rfl;have z1:=gU (j:=1) (v:= .slice (some ⟨w.heap.size+1,0,none⟩) 2 2) z0 (A':=#[.string ⟨#[109,120,46,111,114,103]⟩,.slice (some ⟨w.heap.size+1,0,none⟩) 2 2,.slice none 0 0,.slice none 0 0,.int .i64 0,.int .i64 0,.slice none 0 0,.int .i64 0,.int .i64 0]) rfl;have z2:=gU (j:=2) (v:= .slice (some ⟨w.heap.size+1+1,0,none⟩) 1 1) z1 (A':=#[.string ⟨#[109,120,46,111,114,103]⟩,.slice (some ⟨w.heap.size+1,0,none⟩) 2 2,.slice (some ⟨w.heap.size+1+1,0,none⟩) 1 1,.slice none 0 0,.int .i64 0,.int .i64 0,.slice none 0 0,.int .i64 0,.int .i64 0]) rfl;have z3:=gU (j:=3) (v:= .slice (some ⟨w.heap.size+1+1+1,0,none⟩) 2 2) z2 (A':=#[.string ⟨#[109,120,46,111,114,103]⟩,.slice (some ⟨w.heap.size+1,0,none⟩) 2 2,.slice (some ⟨w.heap.size+1+1,0,none⟩) 1 1,.slice (some ⟨w.heap.size+1+1+1,0,none⟩) 2 2,.int .i64 0,.int .i64 0,.slice none 0 0,.int .i64 0,.int .i64 0]) rfl;have z4:=gU (j:=4) (v:= .int .i64 (1+a)) z3 (A':=#[.string ⟨#[109,120,46,111,114,103]⟩,.slice (some ⟨w.heap.size+1,0,none⟩) 2 2,.slice (some ⟨w.heap.size+1+1,0,none⟩) 1 1,.slice (some ⟨w.heap.size+1+1+1,0,none⟩) 2 2,.int .i64 (1+a),.int .i64 0,.slice none 0 0,.int .i64 0,.int .i64 0]) rfl;have z5:=gU (j:=5) (v:= .int .i64 (1+b)) z4 (A':=#[.string ⟨#[109,120,46,111,114,103]⟩,.slice (some ⟨w.heap.size+1,0,none⟩) 2 2,.slice (some ⟨w.heap.size+1+1,0,none⟩) 1 1,.slice (some ⟨w.heap.size+1+1+1,0,none⟩) 2 2,.int .i64 (1+a),.int .i64 (1+b),.slice none 0 0,.int .i64 0,.int .i64 0]) rfl;have z6:=gU (j:=6) (v:= .slice (some ⟨w.heap.size+4,0,none⟩) 3 3) z5 (A':=#[.string ⟨#[109,120,46,111,114,103]⟩,.slice (some ⟨w.heap.size+1,0,none⟩) 2 2,.slice (some ⟨w.heap.size+1+1,0,none⟩) 1 1,.slice (some ⟨w.heap.size+1+1+1,0,none⟩) 2 2,.int .i64 (1+a),.int .i64 (1+b),.slice (some ⟨w.heap.size+4,0,none⟩) 3 3,.int .i64 0,.int .i64 0]) rfl;have z7:=gU (j:=7) (v:= .int .i64 (1+d)) z6 (A':=#[.string ⟨#[109,120,46,111,114,103]⟩,.slice (some ⟨w.heap.size+1,0,none⟩) 2 2,.slice (some ⟨w.heap.size+1+1,0,none⟩) 1 1,.slice (some ⟨w.heap.size+1+1+1,0,none⟩) 2 2,.int .i64 (1+a),.int .i64 (1+b),.slice (some ⟨w.heap.size+4,0,none⟩) 3 3,.int .i64 (1+d),.int .i64 0]) rfl;exact gU (j:=8) (v:= .int .i64 1000000) z7 (A':=#[.string ⟨#[109,120,46,111,114,103]⟩,.slice (some ⟨w.heap.size+1,0,none⟩) 2 2,.slice (some ⟨w.heap.size+1+1,0,none⟩) 1 1,.slice (some ⟨w.heap.size+1+1+1,0,none⟩) 2 2,.int .i64 (1+a),.int .i64 (1+b),.slice (some ⟨w.heap.size+4,0,none⟩) 3 3,.int .i64 (1+d),.int .i64 1000000]) rfl
 have P:h.cell? ⟨w.heap.size,0,none⟩=some (.string ⟨#[109,120,46,111,114,103]⟩):=by rw [Lib.cell_of_heap q];rfl
 have e1:h.cell? ⟨w.heap.size,1,none⟩=some (.slice (some ⟨w.heap.size+1,0,none⟩) 2 2):=by rw [Lib.cell_of_heap q];rfl
 have e2:h.cell? ⟨w.heap.size,2,none⟩=some (.slice (some ⟨w.heap.size+1+1,0,none⟩) 1 1):=by rw [Lib.cell_of_heap q];rfl
 have e3:h.cell? ⟨w.heap.size,3,none⟩=some (.slice (some ⟨w.heap.size+1+1+1,0,none⟩) 2 2):=by rw [Lib.cell_of_heap q];rfl
 have e4:h.cell? ⟨w.heap.size,4,none⟩=some (.int .i64 (1+a)):=by rw [Lib.cell_of_heap q];rfl
 have e5:h.cell? ⟨w.heap.size,5,none⟩=some (.int .i64 (1+b)):=by rw [Lib.cell_of_heap q];rfl
 have e6:h.cell? ⟨w.heap.size,6,none⟩=some (.slice (some ⟨w.heap.size+4,0,none⟩) 3 3):=by rw [Lib.cell_of_heap q];rfl
 have e7:h.cell? ⟨w.heap.size,7,none⟩=some (.int .i64 (1+d)):=by rw [Lib.cell_of_heap q];rfl
 have e8:h.cell? ⟨w.heap.size,8,none⟩=some (.int .i64 1000000):=by rw [Lib.cell_of_heap q];rfl
 clear t q;refine bodyPost_ret (v:= .agg #[.string ⟨#[109,120,46,111,114,103]⟩,.slice (some ⟨w.heap.size+1,0,none⟩) 2 2,.slice (some ⟨w.heap.size+1+1,0,none⟩) 1 1,.slice (some ⟨w.heap.size+1+1+1,0,none⟩) 2 2,.int .i64 (1+a),.int .i64 (1+b),.slice (some ⟨w.heap.size+4,0,none⟩) 3 3,.int .i64 (1+d),.int .i64 1000000]) (by simp [results,Tryz.results8,go_sem,P,e1,e2,e3,e4,e5,e6,e7,e8]) rfl ?_;exact ⟨_,_,_,_,rfl,⟨vE (lK L G.out (by omega)) rfl,vE (lK L I.out (by omega)) rfl,vE (lK L K.out (by omega)) rfl,vE (lK L (by rw [←zd];exact Y.out) (by omega)) rfl⟩,T.out.trans (L.below (Nat.le_refl _))⟩
def K9:List UInt8:=[72,69,76,79,32,120]
def Ey:List UInt8:=[77,65,73,76,32,70,82,79,77,58,60,62]
def Ez:List UInt8:=[82,67,80,84,32,84,79,58,60,98,64,97,46,111,114,103,62]
def so:List UInt8:=[68,65,84,65]
def JP:List UInt8:=[72,69,76,79,32,120,13,10,77,65,73,76,32,70,82,79,77,58,60,62,13,10,82,67,80,84,32,84,79,58,60,98,64,97,46,111,114,103,62,13,10,68,65,84,65,13,10,46,13,10]
def Ea:List UInt8:=[50,53,48,32,109,120,46,111,114,103,13,10,50,53,48,32,111,107,13,10,50,53,48,32,111,107,13,10,51,53,52,32,103,111,13,10,50,53,48,32,107,101,112,116,32,49,13,10]
def rz:List UInt8:=[98,64,97,46,111,114,103]
def tQ:aX:=⟨1,0,[],[rz],[]⟩
def Cj:aa:=aa.plus ⟨[],0⟩ tQ
def I6:List UInt8:=bJ (cA tQ)
section
variable {a b d:Int} {c:bX}
def br (c:bX):bG:={dI c 1 with greeted:=true}
theorem Gs (D:0≤a) (E:0≤b):cL (dD a b d) (dI (dD a b d) 1,⟨[],0⟩,[],[]) JP=(br (dD a b d),Cj,I6,Ea):=by
 obtain ⟨c,f⟩:∃c,dD a b d=c:=⟨_,rfl⟩;have g:c.most=1+a:=by rw [←f];rfl
 have h:c.size=1+b:=by rw [←f];rfl
 have m:dM c rz=true:=by rw [←f];kernel_rfl
 have o:jt c [] tQ=true:=by rw [←f];kernel_rfl
 have n:cQ c=[109,120,46,111,114,103]:=by rw [←f];rfl
 rw [f];clear f;have p:bn K9 false=⟨6,[],0,[]⟩:=by kernel_rfl
 have q:bn Ey false=⟨9,[],0,[]⟩:=by kernel_rfl
 have r:bn Ez false=⟨10,rz,0,[]⟩:=by kernel_rfl
 have s:bn so false=⟨5,[],0,[]⟩:=by kernel_rfl
 have t:zK K9=true:=by kernel_rfl
 have u:zK Ey=true:=by kernel_rfl
 have v:zK Ez=true:=by kernel_rfl
 have w:zK so=true:=by kernel_rfl
 have x:zK [46]=true:=by kernel_rfl
 have i:JP=K9++[13,10]++(Ey++[13,10]++(Ez++[13,10]++(so++[13,10]++([46]++[13,10])))):=rfl
 have y:aO c (dI c 1) ⟨[],0⟩ [] K9 false=(br c,⟨[],0⟩,[],[[50,53,48,32]++cQ c++[13,10]]):=by
  show ((bz c (dI c 1) (bn K9 false)).1,_,_,(bz c (dI c 1) (bn K9 false)).2)=_;rw [p];rfl
 have z:aO c (br c) ⟨[],0⟩ [] Ey false=({br c with tx:=some ⟨[],[],none⟩},⟨[],0⟩,[],[jD]):=by
  show ((bz c (br c) (bn Ey false)).1,_,_,(bz c (br c) (bn Ey false)).2)=_;rw [q];have e:bz c (br c) ⟨9,[],0,[]⟩=if c.size < ((0:Nat):Int) then (br c,[uw]) else ({br c with tx:=some ⟨[],[],none⟩},[jD]):=rfl;rw [e,if_neg (by rw [h];omega)]
 have A:aO c {br c with tx:=some ⟨[],[],none⟩} ⟨[],0⟩ [] Ez false=({br c with tx:=some ⟨[],[rz],none⟩},⟨[],0⟩,[],[jD]):=by
  show ((bz c {br c with tx:=some ⟨[],[],none⟩} (bn Ez false)).1,_,_,(bz c {br c with tx:=some ⟨[],[],none⟩} (bn Ez false)).2)=_;rw [r];have e:bz c {br c with tx:=some ⟨[],[],none⟩} ⟨10,rz,0,[]⟩=({br c with tx:=some ⟨[],cY [] c.most ((br c).nets || (br c).known || dM c rz) rz,none⟩},[b9 [] c.most ((br c).nets || (br c).known || dM c rz) rz]):=rfl;have j:((br c).nets || (br c).known || dM c rz)=true:=by rw [m,Bool.or_true]
  have k:cY [] c.most true rz=[rz]:=by
   unfold cY;rw [if_neg (by decide),if_neg (by rw [g];show ¬((0:Nat):Int)=1+a;omega),if_pos rfl];rfl
  have l:b9 [] c.most true rz=jD:=by
   unfold b9;rw [if_neg (by decide),if_neg (by rw [g];show ¬((0:Nat):Int)=1+a;omega),if_pos rfl];rfl
  rw [e,j,k,l]
 have B:aO c {br c with tx:=some ⟨[],[rz],none⟩} ⟨[],0⟩ [] so false=({br c with tx:=some ⟨[],[rz],some ⟨[],false,false⟩⟩},⟨[],0⟩,[],[zl]):=by
  show ((bz c {br c with tx:=some ⟨[],[rz],none⟩} (bn so false)).1,_,_,(bz c {br c with tx:=some ⟨[],[rz],none⟩} (bn so false)).2)=_;rw [s];rfl
 have C:aO c {br c with tx:=some ⟨[],[rz],some ⟨[],false,false⟩⟩} ⟨[],0⟩ [] [46] false=(br c,Cj,I6,[[50,53,48,32,107,101,112,116,32]++Lib.itoa ((0:Int)+1)++[13,10]]):=by
  show kz c {br c with tx:=some ⟨[],[rz],some ⟨[],false,false⟩⟩} ⟨[],0⟩ [] ⟨[],[rz],some ⟨[],false,false⟩⟩ ⟨[],false,false⟩=_;unfold kz;rw [if_neg (by decide),if_neg (by rw [h];show ¬1+b < ((0:Nat):Int);omega)];exact Eq.trans (if_pos o) rfl
 rw [i,gI c _ _ _ _ t rfl rfl,y,gI c _ _ _ _ u rfl rfl,z,gI c _ _ _ _ v rfl rfl,A,gI c _ _ _ _ w rfl rfl,B,lQ c _ _ _ _ x rfl rfl,C,n,show Lib.itoa ((0:Int)+1)=[49] by kernel_rfl]
 rfl
theorem Ag:gA Cj.items=[tQ]:=by kernel_rfl
theorem Af:mX (dD a b d)=[50,50,48,32,109,120,46,111,114,103,13,10]:=rfl
def I5 (c:bX):GS:=⟨Cj,I6,[some (br c)],none,oS ⟨[],0⟩ Cj (fun _=>(0,0)),[⟨1,false,false,false,[]⟩],[⟨1,0,[],[rz],[]⟩],false⟩
theorem Gr (k:dX c):hJ (I5 c):=by
 refine ⟨rfl,fun n x o e f=>?_,rfl,fun m g=>?_,fun m g=>?_,Nat.le_refl 1,fun i j=>?_⟩
 ·have e:([⟨1,false,false,false,[]⟩]:List ca)[n]? =some x:=e;have f:([some (br c)]:List (Option bG))[n]? =some o:=f
  cases n with
  | zero=>
   injection e with e;injection f with f;subst e f;exact ⟨rfl,rfl,rfl,rfl,rfl,rfl,Dk k.nets (addr:=1),(fun t h=>by cases h),by decide,by decide⟩
  | succ n=>cases e
 ·rw [List.mem_singleton.1 (show m∈[(⟨1,0,[],[rz],[]⟩:aX)] from g)];exact Nat.le_refl 1
 ·rw [List.mem_singleton.1 (show m∈[(⟨1,0,[],[rz],[]⟩:aX)] from g)];decide
 ·have j:i < 1:=j;obtain rfl:i=0:=by omega
  refine ⟨fun m g _ t h=>?_,fun l=>absurd rfl (l ⟨1,0,[],[rz],[]⟩ (List.mem_singleton.2 rfl))⟩;rw [List.mem_singleton.1 (show m∈[(⟨1,0,[],[rz],[]⟩:aX)] from g)];exact h
theorem Fb (e:0≤a∧a < 10) (f:0≤b∧b < 1000) (g:0≤d∧d < 60):dX (dD a b d):=⟨rfl,rfl,oW e f g⟩
end
theorem Jv {c:bX} {w d:World} {e:Ending} (h:yt c [] w e d):∃(E own:Nat→Prop) (a:Nat),e= .returned (.tuple #[.pointer (some ⟨a,0,none⟩),.int .i64 0])∧iC E own a c d ⟨[],0⟩ [] [] none (fun _=>(0,0))∧(∀k,E k→yX k∨w.heap.size≤k)∧(∀k,own k→w.heap.size≤k)∧¬yX a∧Below w.heap.size w d:=by
 obtain ⟨K,E,a,l,j,q,o,v,u,g,b,s,r,t⟩:=h;rw [FI] at g b r;have p:@bQ K E a l j c d q o ⟨[],0⟩ [] (.slice none 0 0) []:=⟨g,(fun n x e=>by cases e),(fun n m x y _ e=>by cases e),by decide,by decide,zP.nil 0,b⟩
 refine ⟨E,ee d l j q o ⟨[],0⟩ (.slice none 0 0) [],a,u,⟨K,l,j,q,o,_,[],none,p,v,(fun i f=>by cases f),rfl,rfl,(fun i f=>by cases f),fun k e=>e.elim id (fun e=>by cases e),fun k e=>nz _ p e⟩,s,fun k e=>?_,g.gpp,t⟩
 rcases e with e | e | ⟨n,x,e,_⟩
 ·exact r k e
 ·cases e
 ·cases e
def Ko (c:bX) (w:World) (e:Ending) (w':World):Prop:=
 ∃gb E own pp vS vM sl ml,e= .returned (.pointer (some ⟨gb,0,none⟩))∧gX E own pp gb c w' vS vM sl ml (I5 c)∧(∀k,k=pp∨own k∨fX gb vS vM k→w.heap.size≤k)∧Below w.heap.size w w'
theorem xN {a b d:Int} (c:ij (dD a b d)=true):xt (dD a b d):=by
 have h:=kg c;unfold xt;exact ⟨by have:=h.host;unfold maxLen;omega,by have:=h.doms;omega,fun x e=>by have:=h.domz x e;unfold maxLen;omega,by have:=h.nets;omega,by have:=h.users;omega,fun x e=>by have:=h.userz x e;unfold maxLen;omega,by have:=h.waits;omega⟩
theorem Cl {a b d:Int} (ha:0≤a∧a < 10) (hb:0≤b∧b < 1000) (hd:0≤d∧d < 60) (vD vN vU vW:Value) (w:World) (h:jZ w (dD a b d) vD vN vU vW) (hg:iR w):
  Calls Tryz.prog 7 #[.agg #[.string (dD a b d).host,vD,vN,vU,.int .i64 (dD a b d).most,.int .i64 (dD a b d).size,vW,.int .i64 (dD a b d).life,.int .i64 (dD a b d).room]] w (Ko (dD a b d) w):=by
 have q:=oW ha hb hd;have c6:=xN q;have O:=Gs (a:=a) (b:=b) (d:=d) ha.1 hb.1;have c2:=Af (a:=a) (b:=b) (d:=d);obtain ⟨c,ec⟩:∃c,dD a b d=c:=⟨_,rfl⟩;rw [ec] at h q c6 O c2 ⊢;clear ec ha hb hd;obtain ⟨aD,cD,eD⟩:=aE h.1;obtain ⟨aN,cN,eN⟩:=aE h.2.1;obtain ⟨aU,cU,eU⟩:=aE h.2.2.1;obtain ⟨aW,cW,eW⟩:=aE h.2.2.2;subst eD eN eU eW;obtain ⟨nD,e3⟩:∃n,c.doms.length=n:=⟨_,rfl⟩;obtain ⟨nN,e4⟩:∃n,c.nets.length=n:=⟨_,rfl⟩;obtain ⟨nU,e5⟩:∃n,c.users.length=n:=⟨_,rfl⟩;obtain ⟨nW,e6⟩:∃n,c.waits.length=n:=⟨_,rfl⟩;obtain ⟨fh,e2⟩:∃n,c.host=n:=⟨_,rfl⟩;obtain ⟨f4,d8⟩:∃n,c.most=n:=⟨_,rfl⟩;obtain ⟨f5,d9⟩:∃n,c.size=n:=⟨_,rfl⟩;obtain ⟨f7,e0⟩:∃n,c.life=n:=⟨_,rfl⟩;obtain ⟨f8,e1⟩:∃n,c.room=n:=⟨_,rfl⟩;obtain ⟨C0,b5⟩:∃C:Array Value,#[.string fh,.slice aD nD cD,.slice aN nN cN,.slice aU nU cU,.int .i64 f4,.int .i64 f5,.slice aW nW cW,.int .i64 f7,.int .i64 f8]=C:=⟨_,rfl⟩;have X0:=heap_alloc_new w (.cells C0 30);have b0:Below w.heap.size w (w.alloc (.cells C0 30)):=(Below.refl _ _).alloc (Nat.le_refl _) _;obtain ⟨W0,Y⟩:∃W:World,w.alloc (.cells C0 30)=W:=⟨_,rfl⟩;rw [Y] at X0 b0;have A:=qU c _ _ _ _ [] W0 (h.below b0) c6 q (hg.below b0) (by decide);rw [e3,e4,e5,e6,e2,d8,d9,e0,e1] at A ⊢;rw [←b5] at Y;have HO:=Lib.hid A;have g6:=Lib.hid X0;have a2:=Lib.hid b0;have g5:=Lib.hid Y;have HG:=Lib.hid hg;have i5:w.heap.size < W0.heap.size:=ah X0;have i1:=Lib.hid q;have c9:=Lib.hid O;have f9:=Lib.hid c2;have l:=Lib.hid b5;clear b5 h X0 b0 Y A c6 q O c2 hg e3 e4 e5 e6 e2 d8 d9 e0 e1;go_enter Tryz.func7,Tryz.ntmps7;go_wp2_with fail
 rw [g5.out];refine HO.out.mono ?_;intro e i f0;obtain ⟨E,own,pp,rfl,hP,hE,hO,e9,c0⟩:=Jv f0;have S:=ae c0 g6.out;have y0:i.cell? ⟨w.heap.size,0,none⟩=some (.string fh):=by rw [Lib.cell_of_heap S,←l.out];rfl
 have y1:i.cell? ⟨w.heap.size,1,none⟩=some (.slice aD nD cD):=by rw [Lib.cell_of_heap S,←l.out];rfl
 have y2:i.cell? ⟨w.heap.size,2,none⟩=some (.slice aN nN cN):=by rw [Lib.cell_of_heap S,←l.out];rfl
 have y3:i.cell? ⟨w.heap.size,3,none⟩=some (.slice aU nU cU):=by rw [Lib.cell_of_heap S,←l.out];rfl
 have y4:i.cell? ⟨w.heap.size,4,none⟩=some (.int .i64 f4):=by rw [Lib.cell_of_heap S,←l.out];rfl
 have y5:i.cell? ⟨w.heap.size,5,none⟩=some (.int .i64 f5):=by rw [Lib.cell_of_heap S,←l.out];rfl
 have y6:i.cell? ⟨w.heap.size,6,none⟩=some (.slice aW nW cW):=by rw [Lib.cell_of_heap S,←l.out];rfl
 have y7:i.cell? ⟨w.heap.size,7,none⟩=some (.int .i64 f7):=by rw [Lib.cell_of_heap S,←l.out];rfl
 have y8:i.cell? ⟨w.heap.size,8,none⟩=some (.int .i64 f8):=by rw [Lib.cell_of_heap S,←l.out];rfl
 have HP:=Lib.hid hP;have HE:=Lib.hid hE;have g0:=Lib.hid hO;have H:=Lib.hid c0;have f6:=Lib.hid e9;clear hP hE hO c0 S f0 HO e9;go_wp2_with fail
 obtain ⟨C2,b6⟩:∃C:Array Value,#[.pointer (some ⟨pp,0,none⟩),.string fh,.slice aD nD cD,.slice aN nN cN,.slice aU nU cU,.int .i64 f4,.int .i64 f5,.slice aW nW cW,.int .i64 f7,.int .i64 f8,.slice none 0 0,.slice none 0 0,.int .i64 0,.bool false]=C:=⟨_,rfl⟩;have x2:=heap_alloc_new i (.cells C2 41);have b2:Below i.heap.size i (i.alloc (.cells C2 41)):=(Below.refl _ _).alloc (Nat.le_refl _) _;have z2:(i.alloc (.cells C2 41)).heap.size=i.heap.size+1:=by simp
 rw [b6];have a8:=Lib.hid b6;clear b6;obtain ⟨W2,e7⟩:∃W:World,i.alloc (.cells C2 41)=W:=⟨_,rfl⟩;rw [e7] at x2 b2 z2 ⊢;clear e7;have P2:=HP.out.below b2;have a9:=P2.conn 1 (by decide) (by decide) (by decide);rw [f9.out,show bs [50,50,48,32,109,120,46,111,114,103,13,10]=⟨#[50,50,48,32,109,120,46,111,114,103,13,10]⟩ from rfl] at a9;refine a9.mono ?_;rintro e w3 ⟨rfl,Z,P3,p,K3⟩;have f2:pp < i.heap.size:=HP.out.elt HP.out.epp;have F:∀k,own k→W0.heap.size≤k∧k < i.heap.size:=fun k e=>⟨g0.out k e,HP.out.lt e⟩;have f1:W0.heap.size≤pp:=(HE.out pp HP.out.epp).resolve_left f6.out;have x3:=K3.some_ x2 (fun e=>e.elim (fun e=>by omega) (fun e=>by have:=F _ e;omega))
 have Q:∀k,Z k→W0.heap.size≤k∧k≠i.heap.size:=fun k e=>by
  have hz:=H.out.size
  rcases p k e with e | e
  ·have:=F k e;omega
  ·omega
 have B3:Below w.heap.size w w3:=((a2.out.trans (H.out.mono a2.out.size)).trans (b2.mono (by have:=H.out.size;omega))).trans (K3.toBelow (fun k e=>e.elim (fun e=>by omega) (fun e=>by have:=F k e;omega)) (by have:=H.out.size;omega));have HR:=P3.recv 0 (s:=dI c 1) rfl JP (by decide);rw [c9.out,show bs Ea=⟨#[50,53,48,32,109,120,46,111,114,103,13,10,50,53,48,32,111,107,13,10,50,53,48,32,111,107,13,10,51,53,52,32,103,111,13,10,50,53,48,32,107,101,112,116,32,49,13,10]⟩ from rfl] at HR;have d1:=Lib.hid HR;have d2:=Lib.hid x3;have a5:=Lib.hid B3;have d0:=Lib.hid Q;clear HR x3 B3 Q K3 p P3 a9 P2 x2 b2;go_wp2_with fail
 refine d1.out.mono ?_;rintro e w4 ⟨rfl,t,P4,o4,K4⟩;have P4:iC E t pp c w4 Cj I6 [some (br c)] none (oS ⟨[],0⟩ Cj (fun _=>(0,0))):=P4;have i6:i.heap.size < w3.heap.size:=ah d2.out;have b4:∀k,k=pp∨Z k→W0.heap.size≤k∧k≠i.heap.size:=fun k e=>e.elim (fun e=>by omega) (d0.out k);have x4:=K4.some_ d2.out (fun e=>(b4 _ e).2 rfl);have B4:Below w.heap.size w w4:=a5.out.trans (K4.toBelow (fun k e=>by have:=(b4 k e).1;omega) a5.out.size)
 have R:∀k,t k→w.heap.size≤k∧k≠i.heap.size:=fun k e=>by
  have:=a5.out.size
  rcases o4 k e with e | e
  ·have:=d0.out k e;omega
  ·omega
 have hQ:=P4.queue;have HQ:=Lib.hid hQ;have g7:=Lib.hid x4;have a6:=Lib.hid B4;have b1:=Lib.hid R;have b3:=Lib.hid P4;have i4:=Lib.hid f2;have g4:=Lib.hid f1;clear x4 B4 R P4 o4 K4 d1 hQ b4 F f2 f1;go_wp2_with fail
 refine HQ.out.mono ?_;rintro e f ⟨v,a0,rfl,hr,he,c1⟩;rw [Ag] at he
 obtain ⟨⟨m0,g2⟩,rfl⟩:∃x,a0=[x]:=by
  cases a0 with
  | nil=>cases he
  | cons x r=>cases r with
   | nil=>exact ⟨x,rfl⟩
   | cons y r=>simp at he
 have em:m0=tQ:=by simpa using he
 subst em
 obtain ⟨g,d7,I,ev,P⟩:∃g d7 I,v= .slice (some ⟨g,0,none⟩) 1 d7∧f.heap[g]? =some (.cells I 45 (0,0))∧I.toList.take 5=(aY tQ (gW (tQ,g2)).2).toList:=by
  rcases hr.row.2 with ⟨_,h0⟩ | ⟨g,cp,I,e,_,hg,_,_,_,h7⟩
  ·cases h0
  ·exact ⟨g,cp,I,e,hg,by simpa [fJ,show (gW (tQ,g2)).1=tQ from rfl] using h7⟩
 have G:∀j,j < 5→f.cell? ⟨g,j,none⟩=(aY tQ (gW (tQ,g2)).2).toList[j]? :=fun j hj=>by
  rw [Lib.cell_of_heap P.1,←Array.getElem?_toList,←List.getElem?_take_of_lt hj,P.2]
 have t0:f.cell? ⟨g,0,none⟩=some (.int .i64 1):=G 0 (by decide);have t1:f.cell? ⟨g,1,none⟩=some (.int .i64 0):=G 1 (by decide);have t2:f.cell? ⟨g,2,none⟩=some (.string ⟨#[]⟩):=G 2 (by decide);have t3:f.cell? ⟨g,3,none⟩=some (.slice (some ⟨g2,0,none⟩) 1 1):=G 3 (by decide);have t4:f.cell? ⟨g,4,none⟩=some (.string ⟨#[]⟩):=G 4 (by decide);subst ev;have x5:=ae c1 g7.out;have g8:=Lib.hid x5;have x6:∀o:Obj,(f.alloc o).heap[i.heap.size]? =some (.cells C2 41 (0,0)):=fun o=>ae ((Below.refl _ f).alloc (Nat.le_refl _) o) x5;have u10:∀o:Obj,(f.alloc o).cell? ⟨i.heap.size,10,none⟩=some (.slice none 0 0):=fun o=>by rw [Lib.cell_of_heap (x6 o),←a8.out];rfl
 have x7:∀(V:Value) (B D p:Obj),((((f.alloc B).setCell ⟨i.heap.size,10,none⟩ V).alloc D).alloc p).heap[i.heap.size]? =some (.cells (C2.setIfInBounds 10 V) 41 (0,0)):=fun V B D p=>ae ((Below.refl _ _).alloc (Nat.le_refl _) p) (ae ((Below.refl _ _).alloc (Nat.le_refl _) D) (heap_setCell_same _ i.heap.size 10 _ _ V (x6 B)));have u11:∀(V:Value) (B D p:Obj),((((f.alloc B).setCell ⟨i.heap.size,10,none⟩ V).alloc D).alloc p).cell? ⟨i.heap.size,11,none⟩=some (.slice none 0 0):=fun V B D p=>by rw [Lib.cell_of_heap (x7 V B D p),←a8.out];rfl
 have i9:∀(V:Value) (B D p:Obj),((((f.alloc B).setCell ⟨i.heap.size,10,none⟩ V).alloc D).alloc p).frozen? ⟨i.heap.size,11,none⟩=false:=fun V B D p=>Lib.frozen_of_heap (x7 V B D p) 11;have g9:=Lib.hid x7;have i8:∀o:Obj,(f.alloc o).frozen? ⟨i.heap.size,10,none⟩=false:=fun o=>Lib.frozen_of_heap (x6 o) 10;have a7:=Lib.hid c1;clear hr he P G x5 c1 HQ x6 x7;go_wp2_with fail
 obtain ⟨B,c3⟩:∃o:Obj,.cells #[.int .i64 1,.bool false,.bool false,.bool false,.slice none 0 0] 51=o:=⟨_,rfl⟩;obtain ⟨D,c4⟩:∃o:Obj,.cells #[.string ⟨#[98,64,97,46,111,114,103]⟩] 9=o:=⟨_,rfl⟩;obtain ⟨p,c5⟩:∃o:Obj,.cells #[.int .i64 1,.int .i64 0,.string ⟨#[]⟩,.slice (some ⟨f.heap.size+1,0,none⟩) 1 1,.string ⟨#[]⟩] 45=o:=⟨_,rfl⟩;rw [c3,c4,c5];go_ret;obtain ⟨V1,b7⟩:∃V:Value,.slice (some ⟨f.heap.size,0,none⟩) 1 1=V:=⟨_,rfl⟩;obtain ⟨V2,b8⟩:∃V:Value,.slice (some ⟨f.heap.size+1+1,0,none⟩) 1 1=V:=⟨_,rfl⟩;rw [b7,b8];obtain ⟨u,T⟩:∃u,i.heap.size=u:=⟨_,rfl⟩;rw [T];obtain ⟨A1,K⟩:∃W:World,f.alloc B=W:=⟨_,rfl⟩;have a1:=heap_alloc_new f (.cells #[.int .i64 1,.bool false,.bool false,.bool false,.slice none 0 0] 51);rw [c3,K] at a1;have h2:aH (fun k=>k=u) f A1:=by rw [←K];exact aH.below ((Below.refl _ f).alloc (Nat.le_refl _) B)
 have i0:A1.heap.size=f.heap.size+1:=by rw [←K];simp
 rw [K];obtain ⟨A2,U⟩:∃W:World,A1.setCell ⟨u,10,none⟩ V1=W:=⟨_,rfl⟩;have h3:aH (fun k=>k=u) A1 A2:=by rw [←U];exact aH.same ((aL.refl _ _).setCell _)
 have c8:A2.heap.size=f.heap.size+1:=by rw [←U];simpa using i0
 rw [U];obtain ⟨A3,L⟩:∃W:World,A2.alloc D=W:=⟨_,rfl⟩;have a3:=heap_alloc_new A2 (.cells #[.string ⟨#[98,64,97,46,111,114,103]⟩] 9);rw [c4,L] at a3;have h4:aH (fun k=>k=u) A2 A3:=by rw [←L];exact aH.below ((Below.refl _ A2).alloc (Nat.le_refl _) D)
 have f3:A3.heap.size=f.heap.size+2:=by rw [←L];simp [c8]
 rw [L];obtain ⟨A4,X⟩:∃W:World,A3.alloc p=W:=⟨_,rfl⟩;have a4:=heap_alloc_new A3 (.cells #[.int .i64 1,.int .i64 0,.string ⟨#[]⟩,.slice (some ⟨f.heap.size+1,0,none⟩) 1 1,.string ⟨#[]⟩] 45);rw [c5,X] at a4;have h5:aH (fun k=>k=u) A3 A4:=by rw [←X];exact aH.below ((Below.refl _ A3).alloc (Nat.le_refl _) p)
 rw [X];have x7:=g9.out V1 B D p;rw [T,K,U,L,X] at x7;have x8:=heap_setCell_same _ u 11 _ _ V2 x7;obtain ⟨W8,e8⟩:∃W:World,A4.setCell ⟨u,11,none⟩ V2=W:=⟨_,rfl⟩;have h6:aH (fun k=>k=u) A4 W8:=by rw [←e8];exact aH.same ((aL.refl _ _).setCell _)
 rw [e8] at x8 ⊢;have d5:=h6;have d4:=h5.trans d5 (fun _ _ e=>e);have h1:=h4.trans d4 (fun _ _ e=>e);have d3:=h3.trans h1 (fun _ _ e=>e);have d6:=h2.trans d3 (fun _ _ e=>e);have i2:u < f.heap.size:=by rw [←T];exact ah g8.out
 have s1:=d3.some_ a1 (by omega);have s3:=d4.some_ a3 (by rw [c8];omega);have s4:=d5.some_ a4 (by rw [f3];omega);rw [←c3] at s1;rw [←c4,c8] at s3;rw [←c5,f3] at s4;have P8:=(b3.out.below a7.out).chg d6 (fun k e x=>by have:=HP.out.elt e;omega) (fun k e x=>(b1.out k e).2 (by omega));have i3:w.heap.size≤u:=by have:=a2.out.size;have:=H.out.size;omega
 have c7:w4.heap.size≤f.heap.size:=a7.out.size;have h8:w.heap.size≤f.heap.size:=Nat.le_trans a6.out.size c7;have m:∀k,t k→k < f.heap.size:=fun k e=>Nat.lt_of_lt_of_le (b3.out.lt e) c7;have J:∀k,E k→k < f.heap.size:=fun k e=>Nat.lt_of_lt_of_le (b3.out.elt e) c7;have M:V1.ownBlock=some f.heap.size:=by rw [←b7];rfl
 have N:V2.ownBlock=some (f.heap.size+1+1):=by rw [←b8];rfl
 have h9:∀k,fX u V1 V2 k→k < W8.heap.size∧¬E k∧¬t k:=fun k e=>by
  rcases e with e | e | e
  ·rw [e];exact ⟨ah x8,fun z=>by have:=HP.out.elt z;omega,fun z=>(b1.out u z).2 T.symm⟩
  ·rw [M] at e;injection e with e;rw [←e];exact ⟨ah s1,fun z=>by have:=J _ z;omega,fun z=>by have:=m _ z;omega⟩
  ·rw [N] at e;injection e with e;rw [←e];exact ⟨ah s4,fun z=>by have:=J _ z;omega,fun z=>by have:=m _ z;omega⟩
 refine ⟨u,E,t,pp,V1,V2,[(⟨1,false,false,false,[]⟩,.slice none 0 0)],[(⟨1,0,[],[rz],[]⟩,.slice (some ⟨f.heap.size+1,0,none⟩) 1 1)],rfl,⟨P8,⟨_,x8,?_⟩,?_,?_,rfl,rfl,?_,?_,h9⟩,fun k e=>?_,?_⟩
 ·rw [←a8.out];exact ⟨rfl,rfl,rfl,rfl,rfl,rfl⟩
 ·rw [←b7];exact ⟨rfl,.inr ⟨f.heap.size,1,_,rfl,Nat.zero_le _,s1,Nat.le_refl _,by unfold maxLen;omega,rfl,rfl⟩⟩
 ·rw [←b8];exact ⟨rfl,.inr ⟨f.heap.size+1+1,1,_,rfl,Nat.zero_le _,s4,Nat.le_refl _,by unfold maxLen;omega,rfl,rfl⟩⟩
 ·intro x hx;rw [List.mem_singleton.1 hx];exact iE.nil _
 ·intro x hx;rw [List.mem_singleton.1 hx];refine ⟨?_,fun k e=>?_⟩
  ·exact ⟨rfl,.inr ⟨f.heap.size+1,0,1,rfl,Nat.le_refl _,fun j hj=>by rw [Nat.zero_add,Lib.cell_of_heap s3,←Array.getElem?_toList];rfl⟩⟩
  ·have e:f.heap.size+1=k:=by simpa [Value.ownBlock] using e
   rw [←e];refine ⟨ah s3,fun z=>by have:=J _ z;omega,fun z=>by have:=m _ z;omega,fun z=>?_⟩
   rcases z with z | z | z
   ·omega
   ·rw [M] at z;injection z with z;omega
   ·rw [N] at z;injection z with z;omega
 ·rcases e with e | e | e | e | e
  ·have:=g4.out;omega
  ·exact (b1.out k e).1
  ·omega
  ·rw [M] at e;injection e with e;omega
  ·rw [N] at e;injection e with e;omega
 ·exact (a6.out.trans (a7.out.mono a6.out.size)).trans (d6.toBelow (fun k e=>by omega) h8)
def tB (E own:Nat→Prop) (pp gb:Nat) (c:bX) (w:World) (vS vM:Value) (sl:List (ca×Value)) (ml:List (aX×Value)) (g:GS) (w1:World):Prop:=
 ∃own1,gX E own1 pp gb c w1 vS vM sl ml g∧(∀k,own1 k→own k∨w.heap.size≤k)∧aH (fun k=>k=pp∨own k) w w1
section
variable {E own:Nat→Prop} {pp gb:Nat} {c:bX} {w w1 w2:World} {vS vM:Value} {sl:List (ca×Value)} {ml:List (aX×Value)} {g g':GS}
theorem tB.refl (h:gX E own pp gb c w vS vM sl ml g):tB E own pp gb c w vS vM sl ml g w:=⟨own,h,fun _ e=> .inl e,aH.refl _ _⟩
theorem tB.then {a b:Nat→Prop} (j:∀k,a k→own k∨w.heap.size≤k) (i:aH (fun k=>k=pp∨own k) w w1) (h:gX E b pp gb c w2 vS vM sl ml g) (f:∀k,b k→a k∨w1.heap.size≤k) (d:aH (fun k=>k=pp∨a k) w1 w2):tB E own pp gb c w vS vM sl ml g w2:=
 ⟨b,h,fun k e=>(f k e).elim (j k) (fun e=> .inr (Nat.le_trans i.size e)),i.trans d (fun k l e=>e.imp id (fun e=>(j k e).elim id (fun e=>by omega)))⟩
theorem tB.below (h:tB E own pp gb c w vS vM sl ml g w1) (b:Below w1.heap.size w1 w2):tB E own pp gb c w vS vM sl ml g w2:=by
 obtain ⟨a,d,f,i⟩:=h;exact ⟨a,d.below b,f,i.trans (aH.below b:aH (fun _=>False) w1 w2) (fun _ _ e=>e.elim)⟩
theorem tB.answer (h:tB E own pp gb c w vS vM sl ml g w1) {t t':aQ} {x:List UInt8} (z:g.tk=some t) (y:t.said≠6) (a:Nat) (v:200≤a∧a≤599) (A:Gn c g.S t a=(t',x++yQ)) (I:x.length≤1000000000):
  Calls Tryz.prog 51 #[.pointer (some ⟨gb,0,none⟩),.int .i64 (a:Int)] w1 fun e K=>e= .returned (.string (bs x))∧tB E own pp gb c w vS vM sl ml {g with tk:=some t'} K:=by
 obtain ⟨B,k,p,q⟩:=h;have H:=k.cells.1;obtain ⟨Y,f⟩:∃Y,x++yQ=Y:=⟨_,rfl⟩;have o:=k.post;rw [z] at o;have b:=o.ans y a v;rw [A,f] at b;have D:=Lib.hid b;have l:=Lib.hid k;have m:=Lib.hid p;have n:=Lib.hid q;obtain ⟨N,d⟩:∃N,x.length=N:=⟨_,rfl⟩;have O:(bs Y).size=N+2:=by rw [aG,←f,List.length_append,d];rfl
 have L:N≤1000000000:=by omega
 have P:(((bs Y).extract N (N+2)).toList == [13,10])=true:=by
  rw [fW,ByteArray.toList_eq,aI,←f,List.take_of_length_le (by rw [List.length_append,d];exact Nat.le_refl _),←d,List.drop_left];rfl
 have j:(bs Y).extract 0 N=bs x:=by
  rw [fW,List.drop_zero,←f,←d,List.take_left]
 have G:=Lib.hid j;have M:IntKind.i64.wrap ((N:Int)+2 - 2)=(N:Int):=by rw [IntKind.wrap_i64];omega
 have J:¬(N:Int)+2 < 2:=by omega
 clear o b k p q v A j f d y z I;go_enter Tryz.func51,Tryz.ntmps51;go_wp2_with fail
 refine D.out.mono ?_;rintro e w2 ⟨rfl,i⟩;obtain ⟨C,r,s,u⟩:=l.out.call i rfl;have F:=Lib.hid (tB.then m.out n.out r s u);clear i r s u H;go_wp2_with fail
 rw [G.out];go_ret;exact ⟨rfl,F.out⟩
end
structure KS (c:bX) (g:GS):Prop where
 sok:oK (g.S,g.recs)
 ses:∀(n:Nat) (s:bG),g.l[n]? =some (some s)→gM c s g.S g.recs
 talk:∀t,g.tk=some t→t.i∈g.S.live∧dC (g.S.stayOf t.i) t
theorem gM.fine {c:bX} {s:bG} {S e:aa} {b a:List UInt8} (h:gM c s S b) (d:oK (e,a)):gM c s e a:=⟨h.tx,d.time,d.led,d.ok,h.wait⟩
theorem KS.step {c:bX} {g v:GS} (C:ij c=true) (d:KS c g) (E:hU c g v):KS c v:=by
 cases E with
 | line n s x l hl hsn hx=>
  obtain ⟨u,G,_⟩:=iU C (d.ses n s hsn) l false (uQ (pZ hl).ok).1;have j:oK ((fI c g n s x l).S,(fI c g n s x l).recs):=⟨u.recs,u.len,u.time⟩;have q:oj g.S (fI c g n s x l).S:=lP c s g.S g.recs l false;refine ⟨j,fun m y h=>?_,fun t f=>?_⟩
  ·rcases kQ h with ⟨_,e⟩ | ⟨_,e⟩
   ·split at e
    ·cases e
    ·injection e with e;rw [←e];exact u
   ·exact (d.ses m y e).fine j
  ·obtain ⟨a,b⟩:=d.talk t f;have o:=bq a;exact ⟨(q.live o).2 a,by rw [q.stay _ o];exact b⟩
 | conn addr h0 w hl=>
  refine ⟨d.sok,fun m y h=>?_,d.talk⟩
  rcases kU h with ⟨_,e⟩ | ⟨_,e⟩
  ·injection e with e;rw [←e];exact ⟨(fun t e=>by cases e),d.sok.time,d.sok.led,d.sok.ok,by show ([]:List UInt8).length≤102;decide⟩
  ·exact d.ses m y e
 | tick T hT htk=>
  have k:=lB (x:=((⟨g.S.items,T⟩:aa),g.recs)) ⟨d.sok.ok.time T,d.sok.led,hT.2⟩ c.life (l:=g.S.live) (fun i k=>k) (gJ g.S) g.S.live.length (Nat.le_refl _);rw [List.take_length] at k;exact ⟨k.1,fun m y h=>(d.ses m y h).fine k.1,(fun t f=>by have f:g.tk=some t:=f;rw [htk] at f;cases f)⟩
 | dial i k hd htk=>
  refine ⟨d.sok,d.ses,fun t f=>?_⟩;injection f with f;rw [←f];exact ⟨k,uL g.S i⟩
 | ans t code hcc hsd htk=>
  refine ⟨d.sok,d.ses,fun H f=>?_⟩;obtain ⟨a,b⟩:=d.talk t htk;injection f with f;rw [←f];have e:(Gn c g.S t code).1.i=t.i:=GY ..;rw [e];exact ⟨a,Ei b hsd _ _ _ _⟩
 | over t htk=>
  obtain ⟨a,b⟩:=d.talk t htk;have r:∀z,∀p∈t.took z,p∈(g.S.stayOf t.i).map (·.1):=fun z p D=>b.sub p (by unfold aQ.act;exact List.mem_append.2 (.inr (ob D)));have F:(g.S.stayOf t.i).length≤10:=dk d.sok.ok t.i;obtain ⟨_,_,_,A,_⟩:=kS (x:=(g.S,g.recs)) (gs:=t.took true) (fs:=t.took false) d.sok a (by have:=kF b true;omega) (by have:=kF b false;omega) (jg (iu b _)) (r _) (r _) (fun p w B=>mn b w B);exact ⟨A.ok,fun m y h=>(d.ses m y h).fine A.ok,(fun t f=>by cases f)⟩
 | close n s x hsn hx=>
  refine ⟨d.sok,fun m y h=>?_,d.talk⟩
  rcases kQ h with ⟨_,e⟩ | ⟨_,e⟩
  ·cases e
  ·exact d.ses m y e
theorem KS.steps {c:bX} {k:Nat} {g a:GS} (d:ij c=true) (b:KS c g) (e:fy c k g a):KS c a:=by
 induction e with
 | nil=>exact b
 | snoc _ s ih=>exact (ih b).step d s
def ny:Option bG→Nat
 | none=>0
 | some s=>(IL s).length
def GS.pot (g:GS):Nat:=g.S.pot+2 * (g.l.map ny).sum
theorem KL {α:Type} (f:α→Nat):∀(l:List α) (n:Nat) (x y:α),l[n]? =some x→((l.set n y).map f).sum+f x=(l.map f).sum+f y
 | [],n,x,y,h=>by simp at h
 | a::l,0,x,y,h=>by
  simp at h;subst h;simp only [List.set_cons_zero,List.map_cons,List.sum_cons];omega
 | a::l,n+1,x,y,h=>by
  have:=KL f l n x y (by simpa using h);simp only [List.set_cons_succ,List.map_cons,List.sum_cons];omega
theorem Lv (c:List (List UInt8)) (a:Int) (d:Bool) (b:List UInt8):(cY c a d b).length≤c.length+1:=by
 unfold cY
 split
 ·omega
 ·split
  ·omega
  ·split
   ·simp
   ·omega
theorem Lx (c:bX) (s:bG) (k:og):(IL (bz c s k).1).length≤(IL s).length+1:=by
 obtain ⟨a,d,e,f,g,b⟩:=s;unfold bz
 split
 ·exact Nat.le_succ _
 ·split
  ·exact Nat.le_succ _
  ·exact Nat.le_succ _
  ·exact Nat.le_succ _
  ·exact Nat.le_succ _
  ·exact Nat.zero_le _
  ·cases b with
   | none=>exact Nat.le_succ _
   | some t=>exact Nat.le_succ _
  ·exact Nat.zero_le _
  ·exact Nat.zero_le _
  ·split
   ·exact Nat.le_succ _
   ·split
    ·exact Nat.le_succ _
    ·exact Nat.le_succ _
  ·split
   ·exact Nat.le_succ _
   ·split
    ·exact Nat.le_succ _
    ·exact Nat.zero_le _
  ·cases b with
   | none=>exact Nat.le_succ _
   | some t=>exact Lv _ _ _ _
  ·exact Nat.le_succ _
theorem Ls (c:bX) (s:bG) (S:aa) (a l:List UInt8):(aO c s S a l false).2.1.pot+2 * (IL (aO c s S a l false).1).length≤S.pot+2 * (IL s).length+2:=by
 unfold aO;have i:=Lx c s (bn l false)
 cases f:s.tx with
 | none=>show S.pot+2 * (IL (bz c s (bn l false)).1).length≤_;omega
 | some t=>
  have d:IL s=t.tos:=by unfold IL;rw [f]
  simp only
  cases h:t.body with
  | none=>show S.pot+2 * (IL (bz c s (bn l false)).1).length≤_;omega
  | some b=>
   simp only;unfold dn
   split
   ·unfold kz
    split
    ·show S.pot+2 * 0≤_;omega
    ·split
     ·show S.pot+2 * 0≤_;omega
     ·split
      ·have e:=Ip S (eJ S t.frm t.tos b.text);have g:(eJ S t.frm t.tos b.text).tos.length * (if (eJ S t.frm t.tos b.text).frm=[] then 1 else 2)≤t.tos.length * 2:=Nat.mul_le_mul_left _ (by split <;> omega)
       show (S.plus (eJ S t.frm t.tos b.text)).pot+2 * 0≤_;rw [d];omega
      ·show S.pot+2 * 0≤_;omega
   ·show S.pot+2 * t.tos.length≤_;rw [d];omega
theorem KO (x:aa×List UInt8) (i:Nat) (a:List Nat):(jr x i a).1.pot≤x.1.pot:=by
 unfold jr
 split
 ·exact Nat.le_refl _
 ·rename_i e
  cases h:x.1.takesF x.1.time (i+1) a with
  | none=>exact Nat.le_refl _
  | some S'=>
   have:=(ya (List.length_pos_iff.2 e) h).1;show S'.pot≤_;omega
theorem tN (a:Int):∀(l:List Nat) (x:aa×List UInt8),(dw a x l).1.pot≤x.1.pot
 | [],x=>Nat.le_refl _
 | i::l,x=>by
  refine Nat.le_trans (tN a l (kW a x i)) ?_;unfold kW
  split
  ·exact KO _ _ _
  ·exact Nat.le_refl _
theorem KR {S:aa} {recs:List UInt8} {t:aQ} (c:t.i∈S.live) (d:dC (S.stayOf t.i) t):(cV S recs t).1.pot≤S.pot∧(t.took true≠[]→(cV S recs t).1.pot+1≤S.pot):=by
 have a:(i7 (S,recs) t.i (t.took true)).1.pot≤S.pot∧(t.took true≠[]→(i7 (S,recs) t.i (t.took true)).1.pot+1≤S.pot):=by
  unfold i7
  split
  ·rename_i e
   exact ⟨Nat.le_refl _,fun x=>absurd e x⟩
  ·rename_i e
   have f:bt S (t.i+1) (t.took true)=true:=Dd c (List.length_pos_iff.2 e) (fun p g=>d.sub p (by unfold aQ.act;exact List.mem_append.2 (.inr (ob g))));have h:=Bu (List.length_pos_iff.2 e) f;rw [Nat.add_sub_cancel] at h;have i:1≤(if (S.mailOf t.i).frm=[] then 1 else 2):=by split <;> omega
   show (S.outs t.i (t.took true)).pot≤_∧(_→(S.outs t.i (t.took true)).pot+1≤_);exact ⟨by omega,fun _=>by omega⟩
 have b:=KO (i7 (S,recs) t.i (t.took true)) t.i (t.took false);unfold cV kR;exact ⟨Nat.le_trans b a.1,fun e=>Nat.le_trans (Nat.succ_le_succ b) (a.2 e)⟩
def cx (S:aa):Prop:=∀x∈S.items,x.m.time≤S.time
theorem cx.plus {S:aa} (h:cx S) {m:aX} (b:S.time≤m.time):cx (S.plus m):=fun x a=>by
 rcases List.mem_append.1 (show x∈S.items++[_] from a) with a | a
 ·exact Nat.le_trans (h x a) b
 ·rw [List.mem_singleton.1 a];exact Nat.le_refl _
theorem cx.outs {S:aa} (h:cx S) (i:Nat) (c:List Nat):cx (S.outs i c):=fun x a=>by
 have a:x∈S.items.modify i (fun x=>⟨x.m,jV x.out c⟩):=a;obtain ⟨k,b,e⟩:=List.getElem_of_mem a;rw [List.getElem_modify] at e;rw [List.length_modify] at b;have:=h _ (List.getElem_mem b)
 split at e
 ·rw [←e];exact this
 ·rw [←e];exact this
theorem cx.fail {x:aa×List UInt8} (h:cx x.1) (i:Nat) (c:List Nat):cx (jr x i c).1:=by
 unfold jr
 split
 ·exact h
 ·cases b:x.1.takesF x.1.time (i+1) c with
  | none=>exact h
  | some S'=>
   show cx S';unfold aa.takesF at b
   split at b
   ·injection b with b;rw [←b];unfold aa.failed;have d:=h.outs (i+1 - 1) c
    split
    ·exact fun y a=>d y a
    ·intro y a
     rcases List.mem_append.1 a with a | a
     ·exact d y a
     ·rw [List.mem_singleton.1 a];exact Nat.le_refl _
   ·cases b
theorem cx.gone {x:aa×List UInt8} (h:cx x.1) (i:Nat) (a:List Nat):cx (i7 x i a).1:=by
 unfold i7
 split
 ·exact h
 ·exact h.outs i a
theorem cx.ticks (a:Int):∀(l:List Nat) {x:aa×List UInt8},cx x.1→cx (dw a x l).1
 | [],x,h=>h
 | i::l,x,h=>by
  refine cx.ticks a l (x:=kW a x i) ?_;unfold kW
  split
  ·exact h.fail _ _
  ·exact h
theorem cx.mail {S:aa} (h:cx S) {i:Nat} (a:i < S.items.length):(S.mailOf i).time≤S.time:=by
 rw [cd a];exact h _ (List.getElem_mem a)
structure KM (g:GS):Prop where
 tm:cx g.S
 due:∀i∈g.S.live,(g.d i).1≤g.S.time+5
theorem Lm (f:Int):kH [1,5,2] f≤5:=by
 unfold kH
 generalize (if (([1,5,2]:List Int).length:Int) - 1 < f then ([1,5,2]:List Int).length - 1 else f.toNat)=k
 rcases k with _ | _ | _ | k <;> simp
theorem KM.new {g:GS} (h:KM g) {a:aa} (d:cx a) (f:g.S.time≤a.time) (c:∀i∈a.live,i < g.S.items.length→i∈g.S.live):∀i∈a.live,(oS g.S a g.d i).1≤a.time+5:=fun i b=>by
 unfold oS
 split
 ·rename_i e
  have:=h.due i (c i b e);omega
 ·have:=d.mail (bq b);show (((a.mailOf i).time:Nat):Int)≤_;omega
theorem hU.late {c:bX} {g A:GS} (N:c.waits=[1,5,2]) (q:KS c g) (h:KM g) (M:hU c g A):KM A∧A.pot≤g.pot+2:=by
 cases M with
 | line n s x l hl hsn hx=>
  have j:oj g.S (fI c g n s x l).S:=lP c s g.S g.recs l false;have F:=Ls c s g.S g.recs l
  have o:cx (fI c g n s x l).S:=fun y D=>by
   obtain ⟨k,B,e⟩:=List.getElem_of_mem D;rw [j.time]
   by_cases d:k < g.S.items.length
   ·have:=j.mail k d;rw [cd B,cd d,e] at this;rw [this];exact h.tm _ (List.getElem_mem d)
   ·have:=j.new k (by omega) B;rw [cd B,e] at this;omega
  refine ⟨⟨o,h.new o (by rw [j.time];exact Nat.le_refl _) (fun i m d=>(j.live d).1 m)⟩,?_⟩;have e:=KL ny g.l n (some s) (if (aO c s g.S g.recs l false).1.over then none else some (aO c s g.S g.recs l false).1) hsn
  have J:ny (if (aO c s g.S g.recs l false).1.over then none else some (aO c s g.S g.recs l false).1)≤(IL (aO c s g.S g.recs l false).1).length:=by
   split
   ·exact Nat.zero_le _
   ·exact Nat.le_refl _
  have O:ny (some s)=(IL s).length:=rfl;show (aO c s g.S g.recs l false).2.1.pot+2 * ((g.l.set n _).map ny).sum≤g.S.pot+2 * (g.l.map ny).sum+2;omega
 | conn addr h0 E hl=>
  refine ⟨⟨h.tm,h.due⟩,?_⟩;show g.S.pot+2 * ((g.l++[some (dI c addr)]).map ny).sum≤_;rw [List.map_append,List.sum_append];exact Nat.le_add_right _ 2
 | tick T hT htk=>
  obtain ⟨_,_,w,I⟩:=lB (x:=((⟨g.S.items,T⟩:aa),g.recs)) ⟨q.sok.ok.time T,q.sok.led,hT.2⟩ c.life (l:=g.S.live) (fun i m=>m) (gJ g.S) g.S.live.length (Nat.le_refl _);rw [List.take_length] at w I;have o:cx (yj c g T).S:=cx.ticks c.life g.S.live (x:=((⟨g.S.items,T⟩:aa),g.recs)) (fun y D=>Nat.le_trans (h.tm y D) hT.1);have w:(yj c g T).S.time=T:=w;refine ⟨⟨o,h.new o (by rw [w];exact hT.1) (fun i m d=>?_)⟩,?_⟩
  ·refine zo fun e=>?_;obtain ⟨r,C⟩:=List.exists_mem_of_ne_nil _ (jT.1 m).2;have:=I.stay i d r C;have e:(⟨g.S.items,T⟩:aa).stayOf i=[]:=e;rw [e] at this
   cases this
  ·have:=tN c.life g.S.live ((⟨g.S.items,T⟩:aa),g.recs);show (dw c.life (⟨g.S.items,T⟩,g.recs) g.S.live).1.pot+_≤g.S.pot+2 * (g.l.map ny).sum+2;have e:(⟨g.S.items,T⟩:aa).pot=g.S.pot:=rfl;rw [e] at this;show _+2 * (g.l.map ny).sum≤_;omega
 | dial i m hd htk=>exact ⟨⟨h.tm,h.due⟩,Nat.le_add_right _ 2⟩
 | ans t code hcc hsd htk=>exact ⟨⟨h.tm,h.due⟩,Nat.le_add_right _ 2⟩
 | over t htk=>
  obtain ⟨a,b⟩:=q.talk t htk;have v:∀z,∀p∈t.took z,p∈(g.S.stayOf t.i).map (·.1):=fun z p F=>b.sub p (by unfold aQ.act;exact List.mem_append.2 (.inr (ob F)));have P:(g.S.stayOf t.i).length≤10:=dk q.sok.ok t.i;obtain ⟨_,G,_,H,_⟩:=kS (x:=(g.S,g.recs)) (gs:=t.took true) (fs:=t.took false) q.sok a (by have:=kF b true;omega) (by have:=kF b false;omega) (jg (iu b _)) (v _) (v _) (fun p E K=>mn b E K);have u:iB g.S (cV g.S g.recs t).1:=G.later.trans H.later;have f:(cV g.S g.recs t).1.time=g.S.time:=H.aft.time.trans G.aft.time;have o:cx (cV g.S g.recs t).1:=cx.fail (cx.gone (x:=(g.S,g.recs)) h.tm _ _) _ _
  have L:=h.new o (by rw [f];exact Nat.le_refl _) (fun i m d=>by
   refine zo fun e=>?_;obtain ⟨r,C⟩:=List.exists_mem_of_ne_nil _ (jT.1 m).2;have:=u.stay i d r C;rw [e] at this
   cases this)
  refine ⟨⟨o,fun i m=>?_⟩,?_⟩
  ·show (Aw g.S (cV g.S g.recs t).1 g.d t c.waits i).1≤((cV g.S g.recs t).1.time:Int)+5;unfold Aw
   split
   ·rw [N,f];have:=Lm (g.d t.i).2;show (g.S.time:Int)+_≤_;omega
   ·exact L i m
  ·have:=(KR (recs:=g.recs) a b).1;show (cV g.S g.recs t).1.pot+2 * (g.l.map ny).sum≤g.S.pot+2 * (g.l.map ny).sum+2;omega
 | close n s x hsn hx=>
  refine ⟨⟨h.tm,h.due⟩,?_⟩;have e:=KL ny g.l n (some s) none hsn;have J:ny none=0:=rfl;show g.S.pot+2 * ((g.l.set n none).map ny).sum≤g.S.pot+2 * (g.l.map ny).sum+2;omega
theorem fy.late {c:bX} {k:Nat} {g d:GS} (l:ij c=true) (m:c.waits=[1,5,2]) (j:KS c g) (h:KM g) (i:fy c k g d):KM d∧d.pot≤g.pot+2 * k:=by
 induction i with
 | nil=>exact ⟨h,Nat.le_refl _⟩
 | snoc i s ih=>
  obtain ⟨a,b⟩:=ih j h;obtain ⟨e,f⟩:=s.late m (j.steps l i) a;exact ⟨e,by omega⟩
def KA (i:Nat) (L:List (Nat×List UInt8)) (k:Nat):aQ:=if k=0 then ⟨i,2,L,[],[]⟩ else ⟨i,3,L.drop (k - 1),L.take (k - 1),[]⟩
def pq (i:Nat) (L:List (Nat×List UInt8)):aQ:=⟨i,6,[],L,L.map fun x=>(x.1,true)⟩
def K8 (n:List UInt8):List UInt8:=[82,67,80,84,32,84,79,58,60]++n++[62]
def KZ (n:List UInt8):List UInt8:=[77,65,73,76,32,70,82,79,77,58,60]++n++[62]
section
variable (c:bX) (S:aa) (i:Nat) {L:List (Nat×List UInt8)}
theorem LF:Gn c S ⟨i,0,L,[],[]⟩ 220=(⟨i,1,L,[],[]⟩,([69,72,76,79,32]++cQ c)++yQ):=rfl
theorem LG:Gn c S ⟨i,1,L,[],[]⟩ 250=(KA i L 0,KZ (S.mailOf i).frm++yQ):=rfl
theorem Lw {k:Nat} (a:k < L.length):Gn c S (KA i L k) 250=(KA i L (k+1),K8 L[k].2++yQ):=by
 cases k with
 | zero=>
  cases L with
  | nil=>simp at a
  | cons r L=>rfl
 | succ k=>
  have b:KA i L (k+1)=⟨i,3,L.drop k,L.take k,[]⟩:=rfl;have d:KA i L (k+1+1)=⟨i,3,L.drop (k+1),L.take (k+1),[]⟩:=rfl;rw [b,d];have e:Gn c S ⟨i,3,L.drop k,L.take k,[]⟩ 250=(⟨i,3,(L.drop k).drop 1,L.take k++(L.drop k).take 1,[]⟩:aQ).ask:=rfl;have f:(L.drop k).drop 1=L.drop (k+1):=List.drop_drop
  have h:L.take k++(L.drop k).take 1=L.take (k+1):=by
   rw [List.drop_eq_getElem_cons (by omega:k < L.length),List.take_succ_eq_append_getElem (by omega:k < L.length)];rfl
  rw [e,f,h];unfold aQ.ask;simp only [List.drop_eq_getElem_cons a];rfl
theorem Lj (b:L≠[]):Gn c S (KA i L L.length) 250=(⟨i,4,[],L,[]⟩,[68,65,84,65]++yQ):=by
 obtain ⟨k,a⟩:∃k,L.length=k+1:=⟨L.length - 1,by have:=List.length_pos_iff.2 b;omega⟩
 rw [a];have d:KA i L (k+1)=⟨i,3,L.drop k,L.take k,[]⟩:=rfl;have e:Gn c S ⟨i,3,L.drop k,L.take k,[]⟩ 250=(⟨i,3,(L.drop k).drop 1,L.take k++(L.drop k).take 1,[]⟩:aQ).ask:=rfl;have f:(L.drop k).drop 1=[]:=by rw [List.drop_drop,List.drop_eq_nil_iff];omega
 have h:L.take k++(L.drop k).take 1=L:=by
  rw [List.drop_eq_getElem_cons (by omega:k < L.length)];show L.take k++[L[k]]=L;rw [←List.take_succ_eq_append_getElem (by omega:k < L.length),←a,List.take_length]
 rw [d,e,f,h];unfold aQ.ask;simp only [if_neg b];rfl
theorem Li:Gn c S ⟨i,4,[],L,[]⟩ 354=(⟨i,5,[],L,[]⟩,(mD (S.mailOf i).body++[13,10]++[46])++yQ):=rfl
theorem Lk:Gn c S ⟨i,5,[],L,[]⟩ 250=(pq i L,[81,85,73,84]++yQ):=rfl
end
theorem LC (S:aa) (i:Nat):dC (S.stayOf i) (pq i (S.stayOf i)):=by
 have h:=uL S i
 have b:(jM S i).act=(S.stayOf i).map (·.1):=by
  rw [lG (by show 0≠6;omega)];show (S.stayOf i++[]).map (fun y:Nat×List UInt8=>y.1)++[]=_;rw [List.append_nil,List.append_nil]
 have e:(pq i (S.stayOf i)).act=(S.stayOf i).map (·.1):=by
  rw [Kf (by rfl)];show ((S.stayOf i).map fun x:Nat×List UInt8=>(x.1,true)).map (fun y:Nat×Bool=>y.1)=_;rw [List.map_map];rfl
 exact ⟨Nat.le_refl 6,(by show 6=3→_;omega),by rw [e,←b];exact h.nd,by rw [e];exact fun x a=>a,by rw [e,List.length_map];exact Nat.le_refl _,fun x a=>a⟩
theorem Lr (i:Nat) (L:List (Nat×List UInt8)):(∀x,x∈(pq i L).took true ↔ x∈L.map (·.1))∧(pq i L).took false=[]:=by
 have d:((pq i L).came.filter fun x=>x.2 == true).map (·.1)=L.map (·.1):=by
  have:(pq i L).came.filter (fun x=>x.2 == true)=L.map fun x=>(x.1,true):=by
   show (L.map fun x=>(x.1,true)).filter _=_;rw [List.filter_eq_self];intro a b;obtain ⟨y,_,rfl⟩:=List.mem_map.1 b;rfl
  rw [this,List.map_map];rfl
 have e:(pq i L).came.filter (fun x=>x.2 == false)=[]:=by
  show (L.map fun x=>(x.1,true)).filter _=_;rw [List.filter_eq_nil_iff];intro a b;obtain ⟨y,_,rfl⟩:=List.mem_map.1 b;simp
 refine ⟨fun x=>by rw [(oc _ _).mem_iff,d],?_⟩
 unfold aQ.took;rw [e];simp
structure Ln (c:bX) (T0:Nat) (g:GS):Prop where
 good:KS c g
 tm:cx g.S
 due:∀i∈g.S.live,(g.d i).1≤T0+5
 tk:g.tk=none
 t0:T0≤g.S.time
 t5:g.S.time≤T0+5
def GS.mu (T0:Nat) (g:GS):Nat:=g.S.pot+(T0+5 - g.S.time)
section
variable {c:bX} {T0:Nat} {g:GS}
theorem Ln.new (h:Ln c T0 g) {a:aa} (f:cx a) (j:a.time≤T0+5) (d:∀i∈a.live,i < g.S.items.length→i∈g.S.live):∀i∈a.live,(oS g.S a g.d i).1≤T0+5:=fun i b=>by
 unfold oS
 split
 ·rename_i e
  exact h.due i (d i b e)
 ·have:=f.mail (bq b);show (((a.mailOf i).time:Nat):Int)≤_;omega
theorem KD {S b:aa} (h:iB S b):∀i∈b.live,i < S.items.length→i∈S.live:=fun i d a=>by
 refine zo fun e=>?_;obtain ⟨r,f⟩:=List.exists_mem_of_ne_nil _ (jT.1 d).2;have:=h.stay i a r f;rw [e] at this
 cases this
theorem Ln.tick (p:ij c=true) (h:Ln c T0 g) (t:T0≤999999000) (f:g.S.live≠[]) (q:∀i∈g.S.live,(g.S.time:Int) < (g.d i).1):Ln c T0 (yj c g (g.S.time+1))∧(yj c g (g.S.time+1)).mu T0+1≤g.mu T0∧(yj c g (g.S.time+1)).S.time=g.S.time+1∧g.S.time+1≤1000000000:=by
 have k:g.S.time+1≤T0+5:=by
  obtain ⟨i,b⟩:=List.exists_mem_of_ne_nil _ f;have:=q i b;have:=h.due i b;omega
 have j:hU c g (yj c g (g.S.time+1)):= .tick g _ ⟨Nat.le_succ _,by omega⟩ h.tk
 obtain ⟨u,_,a,o⟩:=lB (x:=((⟨g.S.items,g.S.time+1⟩:aa),g.recs)) ⟨h.good.sok.ok.time _,h.good.sok.led,by show g.S.time+1≤_;omega⟩ c.life (l:=g.S.live) (fun i b=>b) (gJ g.S) g.S.live.length (Nat.le_refl _)
 rw [List.take_length] at a o;have n:cx (yj c g (g.S.time+1)).S:=cx.ticks c.life g.S.live (x:=((⟨g.S.items,g.S.time+1⟩:aa),g.recs)) (fun y s=>Nat.le_trans (h.tm y s) (Nat.le_succ _));have a:(yj c g (g.S.time+1)).S.time=g.S.time+1:=a;have r:∀i∈(yj c g (g.S.time+1)).S.live,i < g.S.items.length→i∈g.S.live:=fun i b d=>KD o i b d;refine ⟨⟨(h.good.step p j),n,h.new n (by rw [a];exact k) r,h.tk,by rw [a];have:=h.t0;omega,by rw [a];exact k⟩,?_,a,by omega⟩
 have m:=tN c.life g.S.live ((⟨g.S.items,g.S.time+1⟩:aa),g.recs);have e:(⟨g.S.items,g.S.time+1⟩:aa).pot=g.S.pot:=rfl;have m:(yj c g (g.S.time+1)).S.pot≤g.S.pot:=m;unfold GS.mu;rw [a];omega
theorem Ln.over (H:ij c=true) (h:Ln c T0 g) {i:Nat} (q:i∈g.S.live):Ln c T0 (Bt c {g with tk:=some (pq i (g.S.stayOf i))} (pq i (g.S.stayOf i)))∧(Bt c {g with tk:=some (pq i (g.S.stayOf i))} (pq i (g.S.stayOf i))).mu T0+1≤g.mu T0∧(Bt c {g with tk:=some (pq i (g.S.stayOf i))} (pq i (g.S.stayOf i))).S.time=g.S.time:=by
 have b:=LC g.S i;obtain ⟨A,E⟩:=Lr i (g.S.stayOf i)
 have k:KS c {g with tk:=some (pq i (g.S.stayOf i))}:=⟨h.good.sok,h.good.ses,fun t f=>by
  injection f with f;rw [←f]
  exact ⟨q,b⟩⟩
 have m:hU c {g with tk:=some (pq i (g.S.stayOf i))} (Bt c {g with tk:=some (pq i (g.S.stayOf i))} (pq i (g.S.stayOf i))):= .over _ _ rfl;obtain ⟨t,D⟩:∃t,pq i (g.S.stayOf i)=t:=⟨_,rfl⟩;have d:t.i=i:=by rw [←D];rfl
 rw [D] at b A E k m ⊢;have n:∀z,∀p∈t.took z,p∈(g.S.stayOf i).map (·.1):=fun z p s=>b.sub p (by unfold aQ.act;exact List.mem_append.2 (.inr (ob s)));have J:(g.S.stayOf i).length≤10:=dk h.good.sok.ok i;obtain ⟨_,B,_,C,_⟩:=kS (x:=(g.S,g.recs)) (gs:=t.took true) (fs:=t.took false) h.good.sok q (by have:=kF b true;omega) (by have:=kF b false;omega) (jg (iu b _)) (n _) (n _) (fun p F G=>mn b F G)
 have o:(Bt c {g with tk:=some t} t).S=(kR (g.S,g.recs) i (t.took true) (t.took false)).1:=by
  show (cV g.S g.recs t).1=_;unfold cV;rw [d]
 have l:iB g.S (Bt c {g with tk:=some t} t).S:=by rw [o];exact B.later.trans C.later
 have a:(Bt c {g with tk:=some t} t).S.time=g.S.time:=by rw [o];exact C.aft.time.trans B.aft.time
 have f:cx (Bt c {g with tk:=some t} t).S:=by rw [o];exact cx.fail (cx.gone (x:=(g.S,g.recs)) h.tm _ _) _ _
 have w:(Bt c {g with tk:=some t} t).S.stayOf i=[]:=by
  rw [o,C.stay,B.stay,E,BO];unfold bM;rw [List.filter_eq_nil_iff];intro r y;rw [Bool.not_eq_true',←Bool.not_eq_true,Classical.not_not,List.contains_iff_mem,A];exact List.mem_map_of_mem y
 have I:=h.new f (by rw [a];exact h.t5) (KD l);refine ⟨⟨(k.step H m),f,fun j u=>?_,rfl,by rw [a];exact h.t0,by rw [a];exact h.t5⟩,?_,a⟩
 ·show (Aw g.S (cV g.S g.recs t).1 g.d t c.waits j).1≤_;unfold Aw
  split
  ·rename_i e
   rw [e,d] at u;exact absurd w (jT.1 u).2
  ·exact I j u
 ·have v:t.took true≠[]:=fun e=>by
   obtain ⟨r,y⟩:=List.exists_mem_of_ne_nil _ (jT.1 q).2;have:=(A r.1).2 (List.mem_map_of_mem y);rw [e] at this
   cases this
  have s:=(KR (S:=g.S) (recs:=g.recs) (t:=t) (by rw [d];exact q) (by rw [d];exact b)).2 v;have s:(Bt c {g with tk:=some t} t).S.pot+1≤g.S.pot:=s;unfold GS.mu;rw [a];omega
end
theorem Lf:∀(P:List (List UInt8)),P≠[]→(Lib.join P [13,10]).length+2=Lib.lens P+2 * P.length
 | [],h=>absurd rfl h
 | x::r,_=>by
  rw [Lib.join_length];show 2 * r.length+Lib.lens (x::r)+2=Lib.lens (x::r)+2 * (r.length+1);omega
theorem Kz:∀(P:List (List UInt8)),(ax P).length≤Lib.lens P+3 * P.length+1
 | []=>by decide
 | p::P=>by
  rw [←KI];have b:=Kz P;have d:(py p).length≤p.length+1:=by unfold py;split <;> simp
  have a:Lib.lens (p::P)=p.length+Lib.lens P:=by simp [Lib.lens]
  rw [a,List.length_cons];omega
theorem LH.short {a:List UInt8} {P:List (List UInt8)} (h:LH a P):(ax P).length≤2 * a.length+4:=by
 have b:=Lf P h.ne;rw [h.all] at b;have d:=Kz P;omega
theorem iT.at {s:Nat} {w:World} {v:Value} {a:List (aX×Nat)} {f:List aX} (h:iT s w v a) (e:a.map (·.1)=f) {j:Nat} (M:j < f.length):∃l t n,v= .slice (some ⟨l,0,none⟩) f.length t∧(s≤l∧l < w.heap.size)∧(s≤n∧n < w.heap.size)∧w.cell? ⟨l,j * 5,none⟩=some (.int .i64 f[j].id)∧w.cell? ⟨l,j * 5+2,none⟩=some (.string (bs f[j].frm))∧w.cell? ⟨l,j * 5+3,none⟩=some (.slice (some ⟨n,0,none⟩) f[j].tos.length f[j].tos.length)∧w.cell? ⟨l,j * 5+4,none⟩=some (.string (bs f[j].body))∧∀k (q:k < f[j].tos.length),w.cell? ⟨n,k,none⟩=some (.string (bs f[j].tos[k])):=by
 subst e;have C:j < a.length:=by simpa using M
 have z:j < (a.map gW).length:=by rw [List.length_map];exact C
 have I:(a.map (·.1))[j]=a[j].1:=by simp
 rw [I,List.length_map]
 rcases h.row.2 with ⟨_,O⟩ | ⟨l,F,G,e,K,B,_,_,_,A⟩
 ·omega
 ·have b:∀i,i < 5→w.cell? ⟨l,j * 5+i,none⟩=(aY a[j].1 (gW a[j]).2)[i]? :=fun i L=>by
   rw [Lib.cell_of_heap B,←Array.getElem?_toList,←List.getElem?_take_of_lt (show j * 5+i < a.length * 5 by omega),A,lU _ _ _ z L,List.getElem_map];rfl
  have D:=h.tos a[j] (List.getElem_mem C);obtain ⟨⟨m,n⟩,J⟩:∃r,a[j]=r:=⟨_,rfl⟩;rw [J] at b D ⊢;have N:0 < m.tos.length∨m.tos.length=0:=by omega
  rcases D.2 with ⟨H,_⟩ | ⟨g2,u,o,x,y,p,_,_,_,d⟩
  ·cases H
  ·have x:Value.slice (some ⟨n,0,none⟩) m.tos.length m.tos.length= .slice (some ⟨g2,0,none⟩) m.tos.length u:=x;injection x with e3 _ _;injection e3 with e3;injection e3 with e3;subst e3;refine ⟨l,F,n,e,⟨K,ah B⟩,⟨y,ah p⟩,b 0 (by omega),b 2 (by omega),b 3 (by omega),b 4 (by omega),fun k q=>?_⟩;have q:k < m.tos.length:=q;rw [Lib.cell_of_heap p,←Array.getElem?_toList,←List.getElem?_take_of_lt (show k < m.tos.length * 1 by omega)];have d:o.toList.take (m.tos.length * 1)=aB m.tos:=d;rw [d,eh _ _ q]
section
variable {E own:Nat→Prop} {pp gb:Nat} {c:bX} {w w0 w1:World} {vS vM:Value} {sl:List (ca×Value)} {ml:List (aX×Value)} {g:GS}
theorem tB.cell (h:tB E own pp gb c w vS vM sl ml g w1) {s b:Nat} (f:∀k,s≤k→k < w.heap.size→¬(k=pp∨own k)) (a:s≤b∧b < w.heap.size) (j:Nat):w1.cell? ⟨b,j,none⟩=w.cell? ⟨b,j,none⟩:=by
 obtain ⟨d,_,_,e⟩:=h;exact World.cell?_of_block (e.block b a.2 (f b a.1 a.2))
theorem tB.post0 (h:tB E own pp gb c w vS vM sl ml g w1):w1.cell? ⟨gb,0,none⟩=some (.pointer (some ⟨pp,0,none⟩)):=by
 obtain ⟨a,b,_,_⟩:=h;exact b.cells.1
theorem tB.fin (h:tB E own pp gb c w vS vM sl ml g w1) {t:aQ} (i:g.tk=some t) (r:t.said=6) (a:Nat) (q:200≤a∧a≤599):
  Calls Tryz.prog 33 #[.pointer (some ⟨pp,0,none⟩),.int .i64 (a:Int)] w1 fun e s=>e= .returned (.tuple #[.string ⟨#[]⟩,.int .i64 0])∧tB E own pp gb c w vS vM sl ml (Bt c g t) s:=by
 obtain ⟨j,b,l,m⟩:=h;have f:=b.post;rw [i] at f;refine (f.ansEnd r a q).mono ?_;rintro e u ⟨rfl,d⟩;obtain ⟨k,n,o,p⟩:=b.call d (b.post.laters.2 t i).2;exact ⟨rfl,tB.then l m n o p⟩
theorem KN (i:Nat) (L:List (Nat×List UInt8)) (k:Nat):(KA i L k).said≠6:=by
 unfold KA
 split
 ·show 2≠6;decide
 ·show 3≠6;decide
theorem Lh {S:aa} {i:Nat} (b:dQ (S.mailOf i)):∀r∈S.stayOf i,r.2.length≤255:=fun r a=>by
 unfold aa.stayOf stay at a;obtain ⟨k,_,rfl⟩:=List.mem_map.1 a;exact nQ b.2.2.2.2.1 k
theorem tI (hh:cQ c=[109,120,46,111,114,103]) (h:tB E own pp gb c w vS vM sl ml g w0) {i:Nat} (ht:g.tk=some (jM g.S i)) (hi:i∈g.S.live) {s:Nat} {v:Value} {N:List (aX×Nat)} (hr:iT s w v N) (he:N.map (·.1)=gA g.S.items) (hs:∀k,s≤k→k < w.heap.size→¬(k=pp∨own k)):
  Calls Tryz.prog 24 #[.pointer (some ⟨gb,0,none⟩),v,.int .i64 ((i:Int)+1)] w0 fun e w'=>e= .returned (.bool true)∧tB E own pp gb c w vS vM sl ml (Bt c g (pq i (g.S.stayOf i))) w':=by
 obtain ⟨C,e4⟩:g.S.Ok∧g.S.items.length≤1000000:=by
  obtain ⟨_,a1,_,_⟩:=h;exact ⟨a1.post.sok.ok,a1.post.sok.led.items⟩
 rw [Bv C] at he;obtain ⟨b,l⟩:∃b,g.S.live.map g.S.toldOf=b:=⟨_,rfl⟩;rw [l] at he;have e8:b.length=g.S.live.length:=by rw [←l,List.length_map]
 obtain ⟨j0,e5,b1⟩:=List.getElem_of_mem hi;have J:0 < b.length:=by omega
 have I:∀j (hj:j < b.length),∃a,a∈g.S.live∧b[j]=g.S.toldOf a:=fun j hj=>by
  subst l;exact ⟨g.S.live[j]'(by simpa using hj),List.getElem_mem _,by simp⟩
 have H:∃k,∃u:k < b.length,b[k].id=i+1:=⟨j0,by omega,by subst l;rw [List.getElem_map,b1];rfl⟩
 obtain ⟨f,f2,_,ev,c4,V⟩:=hr.at he J;clear V
 have p:∀j (hj:j < b.length),∃m,(s≤m∧m < w.heap.size)∧w.cell? ⟨f,j * 5,none⟩=some (.int .i64 b[j].id)∧w.cell? ⟨f,j * 5+2,none⟩=some (.string (bs b[j].frm))∧w.cell? ⟨f,j * 5+3,none⟩=some (.slice (some ⟨m,0,none⟩) b[j].tos.length b[j].tos.length)∧w.cell? ⟨f,j * 5+4,none⟩=some (.string (bs b[j].body))∧∀k (u:k < b[j].tos.length),w.cell? ⟨m,k,none⟩=some (.string (bs b[j].tos[k])):=fun j hj=>by
  obtain ⟨f8,f0,m,e,_,r⟩:=hr.at he hj;rw [ev] at e;injection e with e _ _;injection e with e;injection e with e;subst e;exact ⟨m,r⟩
 subst ev
 have hM:b.length≤1000000:=by
  have:g.S.live.length≤(List.range g.S.items.length).length:=List.length_filter_le _ _;rw [List.length_range] at this;omega
 obtain ⟨M,eM⟩:∃M,b.length=M:=⟨_,rfl⟩;obtain ⟨L,Z⟩:∃L,g.S.stayOf i=L:=⟨_,rfl⟩;have G:L≠[]:=by rw [←Z];exact (jT.1 hi).2
 have e2:L.length≤10:=by rw [←Z];exact dk C i
 have hz:=C.sz _ (List.getElem_mem (bq hi));rw [←cd (bq hi)] at hz;have d5:=Lib.hid I;have d4:=Lib.hid H;have c5:=Lib.hid p;have O:=Lib.hid h;have HT:Hid (g.tk=some ⟨i,0,L,[],[]⟩):=Lib.hid (by rw [ht];unfold jM;rw [Z]);have R:=Lib.hid hs;have d:=Lib.hid c4;have a5:=Lib.hid Z;have d3:=Lib.hid G;have HZ:=Lib.hid hz.1;have a6:=Lib.hid eM;rw [eM] at hM;rw [eM];rw [Z];have d1:=Lib.hid hh;clear C e4 he l e8 e5 b1 J I H p hr ht hi hs c4 h hz Z G hh eM;go_enter Tryz.func24,Tryz.ntmps24;go_wp2_with fail
 go_loopw [7] (fun v wr=>∃j:Nat,j≤M∧v= .int .i64 j∧Hid (∀k (u:k < b.length),k < j→b[k].id≠i+1)∧w0=wr) (fun v _=>M - (intOf v).toNat)
 case atStart=>exact ⟨0,Nat.zero_le _,rfl,Lib.hid (fun k _ h=>absurd h (Nat.not_lt_zero k)),rfl⟩
 case round=>
  obtain ⟨j,hj,rfl,a8,rfl⟩:=hrel
  by_cases e6:j < M
  ·have f1:(j:Int) < (M:Int):=by omega
   have c1:j < b.length:=by rw [a6.out];exact e6
   obtain ⟨m,U,z0,z2,z3,z4,st⟩:=c5.out j c1;obtain ⟨a,b7,t⟩:=d5.out j c1
   by_cases b8:a=i
   ·have t:b[j]=g.S.toldOf i:=by rw [t,b8]
    have q:b[j].tos=L.map (·.2):=by
     rw [t];show gy (g.S.stayOf i)=_;rw [a5.out];rfl
    have Y:b[j].tos.length=L.length:=by rw [q,List.length_map]
    obtain ⟨F,eF⟩:∃F,(g.S.mailOf i).frm=F:=⟨_,rfl⟩;obtain ⟨B,eB⟩:∃B,(g.S.mailOf i).body=B:=⟨_,rfl⟩;obtain ⟨n,en⟩:∃n,L.length=n:=⟨_,rfl⟩
    have d9:Hid (∀k (u:k < L.length),w.cell? ⟨m,k,none⟩=some (.string (bs L[k].2))):=Lib.hid fun k u=>by
     have h1:=st k (by rw [Y];exact u);rw [List.getElem_of_eq q,List.getElem_map] at h1;exact h1
    have s3:=z3;rw [Y,en] at s3;have s0:w0.cell? ⟨f,j * 5,none⟩=some (.int .i64 ((i:Int)+1)):=(O.out.cell R.out d.out _).trans (by rw [z0,t];rfl);have s2:w.cell? ⟨f,j * 5+2,none⟩=some (.string (bs F)):=by rw [z2,t,←eF];rfl
    have s4:w.cell? ⟨f,j * 5+4,none⟩=some (.string (bs B)):=by rw [z4,t,←eB];rfl
    have hF:F.length≤255:=by rw [←eF];exact HZ.out.2.2.1
    have hB:B.length≤1048576:=by rw [←eB];exact HZ.out.2.2.2.2.2
    have HF:=Lib.hid hF;have a2:=Lib.hid hB;have a7:=Lib.hid en;have a4:=Lib.hid eF;have c9:=Lib.hid eB;have d6:=Lib.hid s2;have b0:=Lib.hid s3;have d7:=Lib.hid s4;have d0:=Lib.hid U;rw [en] at e2;have H1:=Lib.hid (O.out.answer HT.out (by show 0≠6;decide) 220 (by decide) (x:=[69,72,76,79,32,109,120,46,111,114,103]) (by rw [LF,d1.out];rfl) (by decide));clear st q Y t b7 eF eB en hF hB s2 s3 s4 b8 U z0 z2 z3 z4;go_wp2_with fail
    refine H1.out.mono ?_;rintro e w1 ⟨rfl,b3⟩
    have H2:=Lib.hid (b3.answer rfl (by show 1≠6;decide) 250 (by decide) (LG c g.S i) (by
     rw [a4.out];have:=HF.out;unfold KZ;simp only [List.length_append,List.length_cons,List.length_nil]
     omega))
    rw [a4.out] at H2;clear b3 H1;go_wp2_with fail
    refine H2.out.mono ?_;rintro e w2 ⟨rfl,S⟩;have c6:Hid (tB E own pp gb c w vS vM sl ml {g with tk:=some (KA i L 0)} w2):=Lib.hid S;have s2:w2.cell? ⟨f,j * 5+2,none⟩=some (.string (bs F)):=(S.cell R.out d.out _).trans d6.out;have q0:((bs [69,72,76,79,32,109,120,46,111,114,103]).toList == [69,72,76,79,32,109,120,46,111,114,103])=true:=by rw [ByteArray.toList_eq,aI];rfl
    have f4:=aG F;have f3:=HF.out
    have q1:((bs (KZ F)).toList == ((⟨#[77,65,73,76,32,70,82,79,77,58,60]⟩:ByteArray)++bs F++⟨#[62]⟩).toList)=true:=by
     rw [show (⟨#[77,65,73,76,32,70,82,79,77,58,60]⟩:ByteArray)++bs F++⟨#[62]⟩=bs (KZ F) from by
      rw [show (⟨#[77,65,73,76,32,70,82,79,77,58,60]⟩:ByteArray)=bs [77,65,73,76,32,70,82,79,77,58,60] from rfl,show (⟨#[62]⟩:ByteArray)=bs [62] from rfl,cE,cE];rfl]
     simp
    clear S H2;go_wp2_with fail
    clear q0 q1 s2;go_loopw [10] (fun v wr=>∃k:Nat,k≤n∧v= .int .i64 k∧Hid (tB E own pp gb c w vS vM sl ml {g with tk:=some (KA i L k)} wr)) (fun v _=>n - (intOf v).toNat)
    case atStart=>exact ⟨0,Nat.zero_le _,rfl,c6⟩
    case round=>
     obtain ⟨k,u,rfl,Q⟩:=hrel;have s3:wr.cell? ⟨f,j * 5+3,none⟩=some (.slice (some ⟨m,0,none⟩) n n):=(Q.out.cell R.out d.out _).trans b0.out
     by_cases e7:k < n
     ·have c2:(k:Int) < (n:Int):=by omega
      have A:k < L.length:=by rw [a7.out];exact e7
      have e9:L[k].2.length≤255:=Lh HZ.out _ (by rw [a5.out];exact List.getElem_mem A);have X:=d9.out k A
      have hH:=Q.out.answer rfl (KN i L k) 250 (by decide) (Lw c g.S i A) (by
       unfold K8;simp only [List.length_append,List.length_cons,List.length_nil]
       omega)
      obtain ⟨K,b2⟩:∃K,L[k].2=K:=⟨_,rfl⟩;rw [b2] at e9 X hH;have HH:=Lib.hid hH;have e0:=Lib.hid X;have f7:=aG K
      have q1:((bs (K8 K)).toList == ((⟨#[82,67,80,84,32,84,79,58,60]⟩:ByteArray)++bs K++⟨#[62]⟩).toList)=true:=by
       rw [show (⟨#[82,67,80,84,32,84,79,58,60]⟩:ByteArray)++bs K++⟨#[62]⟩=bs (K8 K) from by
        rw [show (⟨#[82,67,80,84,32,84,79,58,60]⟩:ByteArray)=bs [82,67,80,84,32,84,79,58,60] from rfl,show (⟨#[62]⟩:ByteArray)=bs [62] from rfl,cE,cE];rfl]
       simp
      clear X hH b2 A;go_wp2_with fail
      refine HH.out.mono ?_;rintro e w3 ⟨rfl,y⟩;have f9:w3.cell? ⟨f,j * 5+3,none⟩=some (.slice (some ⟨m,0,none⟩) n n):=(y.cell R.out d.out _).trans b0.out;have sn:w3.cell? ⟨m,k,none⟩=some (.string (bs K)):=(y.cell R.out d0.out _).trans e0.out;have c7:Hid (tB E own pp gb c w vS vM sl ml {g with tk:=some (KA i L (k+1))} w3):=Lib.hid y;clear s3 y HH;go_wp2_with fail
      exact ⟨⟨k+1,by omega,by go_num,c7⟩,by simp [intOf];omega⟩
     ·have c2:¬(k:Int) < (n:Int):=by omega
      obtain rfl:k=n:=by omega
      have H4:=Lib.hid (Q.out.answer rfl (KN i L k) 250 (by decide) (t':=⟨i,4,[],L,[]⟩) (x:=[68,65,84,65]) (by rw [←a7.out];exact Lj c g.S i d3.out) (by decide));obtain ⟨P,hP⟩:=Lz B;have e3:=hP.short;have b6:(ax P).length≤1000000000:=by have:=a2.out;omega
      have HP:=Lib.hid hP;have a9:=Lib.hid b6;clear hP e3 b6;go_wp2_with fail
      refine H4.out.mono ?_;rintro e w4 ⟨rfl,b4⟩;have H5:=Lib.hid (b4.answer rfl (by show 4≠6;decide) 354 (by decide) (t':=⟨i,5,[],L,[]⟩) (x:=ax P) (by rw [←HP.out.sent,←c9.out];exact Li c g.S i) a9.out);clear b4 H4 s3;go_wp2_with fail
      refine H5.out.mono ?_;rintro e w5 ⟨rfl,b5⟩;have H6:=Lib.hid (b5.answer rfl (by show 5≠6;decide) 250 (by decide) (Lk c g.S i) (by decide));clear b5 H5;go_wp2_with fail
      refine H6.out.mono ?_;rintro e w6 ⟨rfl,T⟩;have H7:=Lib.hid (T.fin rfl rfl 221 (by decide));have c0:=T.post0;clear T H6;go_wp2_with fail
      refine H7.out.mono ?_;rintro e D ⟨rfl,z⟩;have s4:D.cell? ⟨f,j * 5+4,none⟩=some (.string (bs B)):=(z.cell R.out d.out _).trans d7.out;have c8:Hid (tB E own pp gb c w vS vM sl ml (Bt c g (pq i L)) D):=Lib.hid z;have e1:=Lib.hid (KJ HP.out a9.out a2.out);have q0:((bs [68,65,84,65]).toList == [68,65,84,65])=true:=by rw [ByteArray.toList_eq,aI];rfl
      have q1:((bs [81,85,73,84]).toList == [81,85,73,84])=true:=by rw [ByteArray.toList_eq,aI];rfl
      have q2:((bs B).toList == (bs B).toList)=true:=by simp
      have c3:f < D.heap.size:=by
       obtain ⟨_,_,_,a3⟩:=z;exact Nat.lt_of_lt_of_le d.out.2 a3.size
      have d8:Hid (∀W:World,Below D.heap.size D W→W.cell? ⟨f,j * 5+4,none⟩=some (.string (bs B))):=Lib.hid fun W hb=>(hb.cell c3).trans s4;clear z H7 c0 c3;go_wp2_with fail
      go_region_held3 (fun w'=>w'.cell? ⟨f,j * 5+4,none⟩=some (.string (bs B)))
       (first | exact s5 | exact s4)
       (first
        | (go_at_call 52;refine (e1.out _).mono ?_;rintro e w8 ⟨rfl,o⟩;have s5:=d8.out w8 (by first | exact o | exact (Below.refl _ D).drew.trans o);have a0:Hid (Below D.heap.size D w8):=Lib.hid (by first | exact o | exact (Below.refl _ D).drew.trans o);clear o))
      go_wp2_with fail
      go_ret;exact ⟨rfl,c8.out.below (by first | exact a0.out | exact a0.out.drew)⟩
   ·have s0:w0.cell? ⟨f,j * 5,none⟩=some (.int .i64 ((a:Int)+1)):=(O.out.cell R.out d.out _).trans (by rw [z0,t];rfl);have f5:¬(a:Int)+1=(i:Int)+1:=by omega
    have d2:Hid (b[j].id≠i+1):=Lib.hid (by rw [t];show a+1≠_;omega);clear z0 z2 z3 z4 st t b7 U;go_wp2_with fail
    exact ⟨⟨j+1,by omega,by go_num,Lib.hid (fun k u f6=>by
     rcases Nat.lt_or_ge k j with h | h
     ·exact a8.out k u h
     ·obtain rfl:k=j:=by omega
      exact d2.out),trivial⟩,by simp [intOf];omega⟩
  ·exfalso;obtain ⟨k,u,e⟩:=d4.out;exact a8.out k u (by have:=a6.out;omega) e
end
def LA:bX:=dD 3 500 59
theorem LB:lS 3 500 59=LA:=by kernel_rfl
theorem Lq:dX LA:=Fb (by decide) (by decide) (by decide)
theorem La (c:bX):KM (I5 c):=by
 refine ⟨fun x a=>?_,fun i b=>?_⟩
 ·have a:x∈([]:List fH)++[⟨tQ,[false]⟩]:=a;rw [List.nil_append,List.mem_singleton] at a;rw [a];exact Nat.le_refl 0
 ·show (oS ⟨[],0⟩ Cj (fun _=>(0,0)) i).1≤_;unfold oS;rw [if_neg (by show ¬i < 0;omega)];have d:i < 1:=bq b;obtain rfl:i=0:=by omega
  exact (by decide:(0:Int)≤0+5)
theorem Lp (c:bX):(I5 c).pot=1:=by
 show Cj.pot+2 * (([some (br c)]:List (Option bG)).map ny).sum=1;have e:Cj.pot=1:=by kernel_rfl
 rw [e];rfl
theorem Ln.of {c:bX} {g:GS} (b:KS c g) (a:KM g) (d:g.tk=none):Ln c g.S.time g∧g.mu g.S.time≤g.pot+5:=by
 refine ⟨⟨b,a.tm,a.due,d,Nat.le_refl _,Nat.le_add_right _ _⟩,?_⟩;unfold GS.mu GS.pot;omega
end Go.Proofs.YtofpegbpgkkgkaaGreatDoor
