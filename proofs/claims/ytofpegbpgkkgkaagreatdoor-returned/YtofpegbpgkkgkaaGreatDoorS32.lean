import Derived.Test.YtofpegbpgkkgkaaGreatDoorS31
namespace Go.Proofs.YtofpegbpgkkgkaaGreatDoor
set_option maxHeartbeats 8000000
set_option maxRecDepth 1000000
open Go.RowKit
def yt (c:bX) (l:List UInt8) (w:World) (e:Ending) (w':World):Prop:=
 ∃(K:Kn) (E:Nat→Prop) (pp pb mb:Nat) (q:Nat→Nat) (vr:Value),K.tk= .pointer none∧e= .returned (.tuple #[.pointer (some ⟨pp,0,none⟩),.int .i64 0])∧dR E pp pb mb c w' q vr (bw l).1 (l.take (bw l).2) (.slice none 0 0) []∧(bw l).1.Ok∧(∀k,E k→yX k∨w.heap.size≤k)∧(∀k,an w' pb mb q vr (bw l).1 k→w.heap.size≤k)∧Below w.heap.size w w'
theorem qU (c:bX) (G H I J:Value) (l:List UInt8) (w:World) (h:jZ w c G H I J) (hz:xt c) (d:ij c=true) (hg:iR w) (hl:l.length≤536870912):
  Calls Tryz.prog 18 #[.agg #[.string c.host,G,H,I,.int .i64 c.most,.int .i64 c.size,J,.int .i64 c.life,.int .i64 c.room],.string (bs l)] w (yt c l w):=by
 obtain ⟨M,t⟩:∃M:World,w.alloc (.cells #[.string c.host,G,H,I,.int .i64 c.most,.int .i64 c.size,J,.int .i64 c.life,.int .i64 c.room] 30)=M:=⟨_,rfl⟩;have Q:Below w.heap.size w M:=by rw [←t];exact (Below.refl _ _).alloc (Nat.le_refl _) _
 obtain ⟨m,hm⟩:=hg.len;have b0:=eI hm;have m0:M.cell? ⟨0,0,none⟩=some (.int .i64 m):=(Q.cell (by exact b0)).trans hm;have a2:=Lib.hid (EH c G H I J m M (h.below Q) hz m0);have R:=Lib.hid Q;have HM:=Lib.hid m0;have HG:=Lib.hid hg;have a7:=Lib.hid t;have a8:Hid (M.heap[w.heap.size]? =some (.cells #[.string c.host,G,H,I,.int .i64 c.most,.int .i64 c.size,J,.int .i64 c.life,.int .i64 c.room] 30 (0,0))):=Lib.hid (by rw [←t];exact heap_alloc_new w _);have a1:=Lib.hid (h.below Q);have a4:=Lib.hid d;clear Q m0 t h hm hg;go_enter Tryz.func18,Tryz.ntmps18;go_wp2_with fail
 rw [a7.out];refine a2.out.mono ?_;intro e j hE;obtain ⟨he,n⟩:=hE;subst he;have B2:=Lib.hid (R.out.trans (n.mono R.out.size));rw [d];simp only [JX];have m2:j.cell? ⟨0,0,none⟩=some (.int .i64 m):=(n.cell (by exact eI HM.out)).trans HM.out;have T:=Lib.hid m2;have p:=ae n a8.out;have y0:j.cell? ⟨w.heap.size,0,none⟩=some (.string c.host):=by rw [Lib.cell_of_heap p];rfl
 have y1:j.cell? ⟨w.heap.size,1,none⟩=some G:=by rw [Lib.cell_of_heap p];rfl
 have y2:j.cell? ⟨w.heap.size,2,none⟩=some H:=by rw [Lib.cell_of_heap p];rfl
 have y3:j.cell? ⟨w.heap.size,3,none⟩=some I:=by rw [Lib.cell_of_heap p];rfl
 have y4:j.cell? ⟨w.heap.size,4,none⟩=some (.int .i64 c.most):=by rw [Lib.cell_of_heap p];rfl
 have y5:j.cell? ⟨w.heap.size,5,none⟩=some (.int .i64 c.size):=by rw [Lib.cell_of_heap p];rfl
 have y6:j.cell? ⟨w.heap.size,6,none⟩=some J:=by rw [Lib.cell_of_heap p];rfl
 have y7:j.cell? ⟨w.heap.size,7,none⟩=some (.int .i64 c.life):=by rw [Lib.cell_of_heap p];rfl
 have y8:j.cell? ⟨w.heap.size,8,none⟩=some (.int .i64 c.room):=by rw [Lib.cell_of_heap p];rfl
 have S:=Lib.hid (Gw c G H I J j (a1.out.below n) (kg d));have b3:w.heap.size≤j.heap.size:=B2.out.size;clear d n m2 p;go_wp2_with fail
 refine S.out.mono ?_;rintro e P ⟨uD,uN,uU,uW,rfl,f,F,X⟩;obtain ⟨aD,cD,eD⟩:=aE f.1;obtain ⟨aN,cN,eN⟩:=aE f.2.1;obtain ⟨aU,cU,eU⟩:=aE f.2.2.1;obtain ⟨aW,cW,eW⟩:=aE f.2.2.2;subst eD eN eU eW;have a6:=Lib.hid (Ab l m P hl ((F.cell (by exact eI T.out)).trans T.out));have B3:=Lib.hid (B2.out.trans (F.mono b3));have b4:w.heap.size≤P.heap.size:=B3.out.size;have a0:=Lib.hid f;have s:=Lib.hid X;clear F f S y0 y1 y2 y3 y4 y5 y6 y7 y8 X;go_wp2_with fail
 refine a6.out.mono ?_;rintro e a ⟨Z,mb,q,vr,rfl,hA,hO,hR,hG,W⟩;have L:=Lib.hid hA;have a5:=Lib.hid hO;have HR:=Lib.hid hR.rowM;have a3:=Lib.hid hG;have E:=Lib.hid W;clear hA hO hR W hG;go_wp2_with fail
 go_ret2
 obtain ⟨C,O⟩:∃C:Array Value,#[.string c.host,.slice aD c.doms.length cD,.slice aN c.nets.length cN,.slice aU c.users.length cU,.int .i64 c.most,.int .i64 c.size,.slice aW c.waits.length cW,.int .i64 c.life,.int .i64 c.room,.pointer (some ⟨Z,0,none⟩),.slice none 0 0,.pointer none]=C:=⟨_,rfl⟩;rw [O];have X5:=heap_alloc_new a (.cells C 88);have u:Below a.heap.size a (a.alloc (.cells C 88)):=(Below.refl _ _).alloc (Nat.le_refl _) _;have b6:(a.alloc (.cells C 88)).heap.size=a.heap.size+1:=by simp
 obtain ⟨U,a9⟩:∃U:World,a.alloc (.cells C 88)=U:=⟨_,rfl⟩;rw [a9] at X5 u b6 ⊢;have b5:P.heap.size≤a.heap.size:=E.out.size;have B5:Below w.heap.size w U:=(B3.out.trans (E.out.mono b4)).trans (u.mono (by omega));have V:Below P.heap.size P U:=E.out.trans (u.mono b5)
 obtain ⟨D,hD⟩:∃D:Nat→Int×Int,∀i,i∈(bw l).1.live→∃v,dL a (q i) ((bw l).1.mailOf i).time ((bw l).1.mailOf i).frm v ((bw l).1.mailOf i).body (D i):=Classical.axiomOfChoice (r:=fun (i:Nat) (x:Int×Int)=>i∈(bw l).1.live→∃v,dL a (q i) ((bw l).1.mailOf i).time ((bw l).1.mailOf i).frm v ((bw l).1.mailOf i).body x) (fun i=>by
  by_cases A:i∈(bw l).1.live
  ·obtain ⟨_,v,x,b,_⟩:=L.out.mail i A;exact ⟨x,fun _=>⟨v,b⟩⟩
  ·exact ⟨(0,0),fun e=>absurd e A⟩)
 let K:Kn:=⟨D,(bw l).1.items.length,.pointer none⟩
 have y:fv a Z mb q vr (bw l).1 (l.take (bw l).2):=⟨L.out.mono (Nat.zero_le _),HR.out,fun i A=>by
  obtain ⟨v,b⟩:=hD i A;have e:bV (bw l).1 i=D i:=if_pos (bq A)
  exact ⟨_,b,by rw [e];rfl,by rw [e];rfl⟩,Nat.le_refl _⟩
 have B:∀k,an a Z mb q vr (bw l).1 k→P.heap.size≤k∧k < a.heap.size:=fun k e=>⟨by
  rcases e with (e | e | ⟨i,A,e | ⟨D,z,N,Y⟩⟩) | e
  ·rw [e];exact L.out.pbb
  ·rw [e];exact L.out.mbb
  ·rw [e];exact (L.out.mail i A).1
  ·obtain ⟨_,v,x,b,cc⟩:=L.out.mail i A;unfold dL at b;rw [b] at N;injection N with N;injection N with N;rw [←N] at Y;have Y:v.ownBlock=some k:=Y;exact (cc.lt k Y).1
  ·exact a3.out k e,an.lt y e⟩
 obtain ⟨b1,b2⟩:=y.chg (aH.below u:aH (fun _=>False) a U) (fun _ _ e=>e);have o:∀k,yX k→k < w.heap.size:=fun k e=>HG.out.lt e;refine ⟨K,fun k=>yX k∨k=a.heap.size∨(Value.slice aD c.doms.length cD).ownBlock=some k∨(Value.slice aN c.nets.length cN).ownBlock=some k∨(Value.slice aU c.users.length cU).ownBlock=some k∨(Value.slice aW c.waits.length cW).ownBlock=some k,a.heap.size,Z,mb,q,vr,rfl,rfl,⟨⟨_,_,_,_,⟨⟨C,X5,by rw [←O];rfl⟩,a0.out.below V,a4.out⟩,fun k e=>⟨.inr (.inr e),by have:=s.out k e;omega⟩⟩,HG.out.below B5,fun k e=> .inl e,fun e=>by have:=o _ e;omega,.inr (.inl rfl),fun k e=>?_,⟨C,X5,by rw [←O];rfl,by rw [←O];rfl,by rw [←O];rfl,by rw [←O];rfl⟩,b1,World.ownsRow_nil _ _ _ _,fun k e x=>?_,fun g e=>by cases e⟩,a5.out,fun k e=>?_,fun k e=>by have:=B k (b2 k e);omega,B5⟩
 ·rcases e with e | e | e
  ·have:=o k e;omega
  ·omega
  ·have:=s.out k e;omega
 ·have hk:=B k (b2 k x)
  rcases e with e | e | e
  ·have:=o k e;omega
  ·omega
  ·have:=s.out k e;omega
 ·rcases e with e | e | e
  ·exact .inl e
  ·exact .inr (by omega)
  ·exact .inr (by have:=s.out k e;omega)
section
variable {E own:Nat→Prop} {pp gb:Nat} {c:bX} {w:World} {vS vM:Value} {sl:List (j0×Value)} {ml:List (aX×Value)} {g g':GS}
end
theorem Jv {c:bX} {w d:World} {e:Ending} (h:yt c [] w e d):∃(E own:Nat→Prop) (a:Nat),e= .returned (.tuple #[.pointer (some ⟨a,0,none⟩),.int .i64 0])∧iC E own a c d ⟨[],0⟩ [] [] none (fun _=>(0,0))∧(∀k,E k→yX k∨w.heap.size≤k)∧(∀k,own k→w.heap.size≤k)∧¬yX a∧Below w.heap.size w d:=by
 obtain ⟨K,E,a,l,j,q,o,v,u,g,b,s,r,t⟩:=h;rw [FI] at g b r;have p:@bQ K E a l j c d q o ⟨[],0⟩ [] (.slice none 0 0) []:=⟨g,(fun n x e=>by cases e),(fun n m x y _ e=>by cases e),by decide,by decide,zP.nil 0,b⟩
 refine ⟨E,ee d l j q o ⟨[],0⟩ (.slice none 0 0) [],a,u,⟨K,l,j,q,o,_,[],none,p,v,(fun i f=>by cases f),rfl,rfl,(fun i f=>by cases f),fun k e=>e.elim id (fun e=>by cases e),fun k e=>nz _ p e⟩,s,fun k e=>?_,g.gpp,t⟩
 rcases e with e | e | ⟨n,x,e,_⟩
 ·exact r k e
 ·cases e
 ·cases e
def Ko (c:bX) (w:World) (e:Ending) (w':World):Prop:=
 ∃gb E own pp vS vM sl ml,e= .returned (.pointer (some ⟨gb,0,none⟩))∧gX E own pp gb c w' vS vM sl ml (I5 c)∧(∀k,k=pp∨own k∨fX gb vS vM k→w.heap.size≤k)∧Below w.heap.size w w'
theorem xN {a b d:Int} (c:ij (dD a b d)=true):xt (dD a b d):=by
 have h:=kg c;unfold xt;exact ⟨by have:=h.host;unfold maxLen;omega,by have:=h.doms;omega,fun x e=>by have:=h.domz x e;unfold maxLen;omega,by have:=h.nets;omega,by have:=h.users;omega,fun x e=>by have:=h.userz x e;unfold maxLen;omega,by have:=h.waits;omega⟩
theorem Cl {a b d:Int} (ha:0≤a∧a < 10) (hb:0≤b∧b < 1000) (hd:0≤d∧d < 60) (vD vN vU vW:Value) (w:World) (h:jZ w (dD a b d) vD vN vU vW) (hg:iR w):
  Calls Tryz.prog 7 #[.agg #[.string (dD a b d).host,vD,vN,vU,.int .i64 (dD a b d).most,.int .i64 (dD a b d).size,vW,.int .i64 (dD a b d).life,.int .i64 (dD a b d).room]] w (Ko (dD a b d) w):=by
 have q:=oW ha hb hd;have c6:=xN q;have O:=Gs (a:=a) (b:=b) (d:=d) ha.1 hb.1;have c2:=Af (a:=a) (b:=b) (d:=d);obtain ⟨c,ec⟩:∃c,dD a b d=c:=⟨_,rfl⟩;rw [ec] at h q c6 O c2 ⊢;clear ec ha hb hd;obtain ⟨aD,cD,eD⟩:=aE h.1;obtain ⟨aN,cN,eN⟩:=aE h.2.1;obtain ⟨aU,cU,eU⟩:=aE h.2.2.1;obtain ⟨aW,cW,eW⟩:=aE h.2.2.2;subst eD eN eU eW;obtain ⟨nD,e3⟩:∃n,c.doms.length=n:=⟨_,rfl⟩;obtain ⟨nN,e4⟩:∃n,c.nets.length=n:=⟨_,rfl⟩;obtain ⟨nU,e5⟩:∃n,c.users.length=n:=⟨_,rfl⟩;obtain ⟨nW,e6⟩:∃n,c.waits.length=n:=⟨_,rfl⟩;obtain ⟨fh,e2⟩:∃n,c.host=n:=⟨_,rfl⟩;obtain ⟨f4,d8⟩:∃n,c.most=n:=⟨_,rfl⟩;obtain ⟨f5,d9⟩:∃n,c.size=n:=⟨_,rfl⟩;obtain ⟨f7,e0⟩:∃n,c.life=n:=⟨_,rfl⟩;obtain ⟨f8,e1⟩:∃n,c.room=n:=⟨_,rfl⟩;obtain ⟨C0,b5⟩:∃C:Array Value,#[.string fh,.slice aD nD cD,.slice aN nN cN,.slice aU nU cU,.int .i64 f4,.int .i64 f5,.slice aW nW cW,.int .i64 f7,.int .i64 f8]=C:=⟨_,rfl⟩;have X0:=heap_alloc_new w (.cells C0 30);have b0:Below w.heap.size w (w.alloc (.cells C0 30)):=(Below.refl _ _).alloc (Nat.le_refl _) _;obtain ⟨W0,Y⟩:∃W:World,w.alloc (.cells C0 30)=W:=⟨_,rfl⟩;rw [Y] at X0 b0;have A:=qU c _ _ _ _ [] W0 (h.below b0) c6 q (hg.below b0) (by decide);rw [e3,e4,e5,e6,e2,d8,d9,e0,e1] at A ⊢;rw [←b5] at Y;have HO:=Lib.hid A;have g6:=Lib.hid X0;have a2:=Lib.hid b0;have g5:=Lib.hid Y;have HG:=Lib.hid hg;have i5:w.heap.size < W0.heap.size:=ah X0;have i1:=Lib.hid q;have c9:=Lib.hid O;have f9:=Lib.hid c2;have l:=Lib.hid b5;clear b5 h X0 b0 Y A c6 q O c2 hg e3 e4 e5 e6 e2 d8 d9 e0 e1;go_enter Tryz.func7,Tryz.ntmps7;go_wp2_with fail
 rw [g5.out];refine HO.out.mono ?_;intro e i f0;obtain ⟨E,own,pp,rfl,hP,hE,hO,e9,c0⟩:=Jv f0;have S:=ae c0 g6.out;have y0:i.cell? ⟨w.heap.size,0,none⟩=some (.string fh):=by rw [Lib.cell_of_heap S,←l.out];rfl
 have y1:i.cell? ⟨w.heap.size,1,none⟩=some (.slice aD nD cD):=by rw [Lib.cell_of_heap S,←l.out];rfl
 have y2:i.cell? ⟨w.heap.size,2,none⟩=some (.slice aN nN cN):=by rw [Lib.cell_of_heap S,←l.out];rfl
 have y3:i.cell? ⟨w.heap.size,3,none⟩=some (.slice aU nU cU):=by rw [Lib.cell_of_heap S,←l.out];rfl
 have y4:i.cell? ⟨w.heap.size,4,none⟩=some (.int .i64 f4):=by rw [Lib.cell_of_heap S,←l.out];rfl
 have y5:i.cell? ⟨w.heap.size,5,none⟩=some (.int .i64 f5):=by rw [Lib.cell_of_heap S,←l.out];rfl
 have y6:i.cell? ⟨w.heap.size,6,none⟩=some (.slice aW nW cW):=by rw [Lib.cell_of_heap S,←l.out];rfl
 have y7:i.cell? ⟨w.heap.size,7,none⟩=some (.int .i64 f7):=by rw [Lib.cell_of_heap S,←l.out];rfl
 have y8:i.cell? ⟨w.heap.size,8,none⟩=some (.int .i64 f8):=by rw [Lib.cell_of_heap S,←l.out];rfl
 have HP:=Lib.hid hP;have HE:=Lib.hid hE;have g0:=Lib.hid hO;have H:=Lib.hid c0;have f6:=Lib.hid e9;clear hP hE hO c0 S f0 HO e9;go_wp2_with fail
 obtain ⟨C2,b6⟩:∃C:Array Value,#[.pointer (some ⟨pp,0,none⟩),.string fh,.slice aD nD cD,.slice aN nN cN,.slice aU nU cU,.int .i64 f4,.int .i64 f5,.slice aW nW cW,.int .i64 f7,.int .i64 f8,.slice none 0 0,.slice none 0 0,.int .i64 0,.bool false]=C:=⟨_,rfl⟩;have x2:=heap_alloc_new i (.cells C2 41);have b2:Below i.heap.size i (i.alloc (.cells C2 41)):=(Below.refl _ _).alloc (Nat.le_refl _) _;have z2:(i.alloc (.cells C2 41)).heap.size=i.heap.size+1:=by simp
 rw [b6];have a8:=Lib.hid b6;clear b6;obtain ⟨W2,e7⟩:∃W:World,i.alloc (.cells C2 41)=W:=⟨_,rfl⟩;rw [e7] at x2 b2 z2 ⊢;clear e7;have P2:=HP.out.below b2;have a9:=P2.conn 1 (by decide) (by decide) (by decide);rw [f9.out,show bs [50,50,48,32,109,120,46,111,114,103,13,10]=⟨#[50,50,48,32,109,120,46,111,114,103,13,10]⟩ from rfl] at a9;refine a9.mono ?_;rintro e w3 ⟨rfl,Z,P3,p,K3⟩;have f2:pp < i.heap.size:=HP.out.elt HP.out.epp;have F:∀k,own k→W0.heap.size≤k∧k < i.heap.size:=fun k e=>⟨g0.out k e,HP.out.lt e⟩;have f1:W0.heap.size≤pp:=(HE.out pp HP.out.epp).resolve_left f6.out;have x3:=K3.some_ x2 (fun e=>e.elim (fun e=>by omega) (fun e=>by have:=F _ e;omega))
 have Q:∀k,Z k→W0.heap.size≤k∧k≠i.heap.size:=fun k e=>by
  have hz:=H.out.size
  rcases p k e with e | e
  ·have:=F k e;omega
  ·omega
 have B3:Below w.heap.size w w3:=((a2.out.trans (H.out.mono a2.out.size)).trans (b2.mono (by have:=H.out.size;omega))).trans (K3.toBelow (fun k e=>e.elim (fun e=>by omega) (fun e=>by have:=F k e;omega)) (by have:=H.out.size;omega));have HR:=P3.recv 0 (s:=dI c 1) rfl JP (by decide);rw [c9.out,show bs Ea=⟨#[50,53,48,32,109,120,46,111,114,103,13,10,50,53,48,32,111,107,13,10,50,53,48,32,111,107,13,10,51,53,52,32,103,111,13,10,50,53,48,32,107,101,112,116,32,49,13,10]⟩ from rfl] at HR;have d1:=Lib.hid HR;have d2:=Lib.hid x3;have a5:=Lib.hid B3;have d0:=Lib.hid Q;clear HR x3 B3 Q K3 p P3 a9 P2 x2 b2;go_wp2_with fail
 refine d1.out.mono ?_;rintro e w4 ⟨rfl,t,P4,o4,K4⟩;have P4:iC E t pp c w4 Cj I6 [some (br c)] none (oS ⟨[],0⟩ Cj (fun _=>(0,0))):=P4;have i6:i.heap.size < w3.heap.size:=ah d2.out;have b4:∀k,k=pp∨Z k→W0.heap.size≤k∧k≠i.heap.size:=fun k e=>e.elim (fun e=>by omega) (d0.out k);have x4:=K4.some_ d2.out (fun e=>(b4 _ e).2 rfl);have B4:Below w.heap.size w w4:=a5.out.trans (K4.toBelow (fun k e=>by have:=(b4 k e).1;omega) a5.out.size)
 have R:∀k,t k→w.heap.size≤k∧k≠i.heap.size:=fun k e=>by
  have:=a5.out.size
  rcases o4 k e with e | e
  ·have:=d0.out k e;omega
  ·omega
 have hQ:=P4.queue;have HQ:=Lib.hid hQ;have g7:=Lib.hid x4;have a6:=Lib.hid B4;have b1:=Lib.hid R;have b3:=Lib.hid P4;have i4:=Lib.hid f2;have g4:=Lib.hid f1;clear x4 B4 R P4 o4 K4 d1 hQ b4 F f2 f1;go_wp2_with fail
 refine HQ.out.mono ?_;rintro e f ⟨v,a0,rfl,hr,he,c1⟩;rw [Ag] at he
 obtain ⟨⟨m0,g2⟩,rfl⟩:∃x,a0=[x]:=by
  cases a0 with
  | nil=>cases he
  | cons x r=>cases r with
   | nil=>exact ⟨x,rfl⟩
   | cons y r=>simp at he
 have em:m0=tQ:=by simpa using he
 subst em
 obtain ⟨g,d7,I,ev,P⟩:∃g d7 I,v= .slice (some ⟨g,0,none⟩) 1 d7∧f.heap[g]? =some (.cells I 45 (0,0))∧I.toList.take 5=(aY tQ (gW (tQ,g2)).2).toList:=by
  rcases hr.row.2 with ⟨_,h0⟩ | ⟨g,cp,I,e,_,hg,_,_,_,h7⟩
  ·cases h0
  ·exact ⟨g,cp,I,e,hg,by simpa [fJ,show (gW (tQ,g2)).1=tQ from rfl] using h7⟩
 have G:∀j,j < 5→f.cell? ⟨g,j,none⟩=(aY tQ (gW (tQ,g2)).2).toList[j]? :=fun j hj=>by
  rw [Lib.cell_of_heap P.1,←Array.getElem?_toList,←List.getElem?_take_of_lt hj,P.2]
 have t0:f.cell? ⟨g,0,none⟩=some (.int .i64 1):=G 0 (by decide);have t1:f.cell? ⟨g,1,none⟩=some (.int .i64 0):=G 1 (by decide);have t2:f.cell? ⟨g,2,none⟩=some (.string ⟨#[]⟩):=G 2 (by decide);have t3:f.cell? ⟨g,3,none⟩=some (.slice (some ⟨g2,0,none⟩) 1 1):=G 3 (by decide);have t4:f.cell? ⟨g,4,none⟩=some (.string ⟨#[]⟩):=G 4 (by decide);subst ev;have x5:=ae c1 g7.out;have g8:=Lib.hid x5;have x6:∀o:Obj,(f.alloc o).heap[i.heap.size]? =some (.cells C2 41 (0,0)):=fun o=>ae ((Below.refl _ f).alloc (Nat.le_refl _) o) x5;have u10:∀o:Obj,(f.alloc o).cell? ⟨i.heap.size,10,none⟩=some (.slice none 0 0):=fun o=>by rw [Lib.cell_of_heap (x6 o),←a8.out];rfl
 have x7:∀(V:Value) (B D p:Obj),((((f.alloc B).setCell ⟨i.heap.size,10,none⟩ V).alloc D).alloc p).heap[i.heap.size]? =some (.cells (C2.setIfInBounds 10 V) 41 (0,0)):=fun V B D p=>ae ((Below.refl _ _).alloc (Nat.le_refl _) p) (ae ((Below.refl _ _).alloc (Nat.le_refl _) D) (heap_setCell_same _ i.heap.size 10 _ _ V (x6 B)));have u11:∀(V:Value) (B D p:Obj),((((f.alloc B).setCell ⟨i.heap.size,10,none⟩ V).alloc D).alloc p).cell? ⟨i.heap.size,11,none⟩=some (.slice none 0 0):=fun V B D p=>by rw [Lib.cell_of_heap (x7 V B D p),←a8.out];rfl
 have i9:∀(V:Value) (B D p:Obj),((((f.alloc B).setCell ⟨i.heap.size,10,none⟩ V).alloc D).alloc p).frozen? ⟨i.heap.size,11,none⟩=false:=fun V B D p=>Lib.frozen_of_heap (x7 V B D p) 11;have g9:=Lib.hid x7;have i8:∀o:Obj,(f.alloc o).frozen? ⟨i.heap.size,10,none⟩=false:=fun o=>Lib.frozen_of_heap (x6 o) 10;have a7:=Lib.hid c1;clear hr he P G x5 c1 HQ x6 x7;go_wp2_with fail
 obtain ⟨B,c3⟩:∃o:Obj,.cells #[.int .i64 1,.bool false,.bool false,.bool false,.slice none 0 0] 51=o:=⟨_,rfl⟩;obtain ⟨D,c4⟩:∃o:Obj,.cells #[.string ⟨#[98,64,97,46,111,114,103]⟩] 9=o:=⟨_,rfl⟩;obtain ⟨p,c5⟩:∃o:Obj,.cells #[.int .i64 1,.int .i64 0,.string ⟨#[]⟩,.slice (some ⟨f.heap.size+1,0,none⟩) 1 1,.string ⟨#[]⟩] 45=o:=⟨_,rfl⟩;rw [c3,c4,c5];go_ret;obtain ⟨V1,b7⟩:∃V:Value,.slice (some ⟨f.heap.size,0,none⟩) 1 1=V:=⟨_,rfl⟩;obtain ⟨V2,b8⟩:∃V:Value,.slice (some ⟨f.heap.size+1+1,0,none⟩) 1 1=V:=⟨_,rfl⟩;rw [b7,b8];obtain ⟨u,T⟩:∃u,i.heap.size=u:=⟨_,rfl⟩;rw [T];obtain ⟨A1,K⟩:∃W:World,f.alloc B=W:=⟨_,rfl⟩;have a1:=heap_alloc_new f (.cells #[.int .i64 1,.bool false,.bool false,.bool false,.slice none 0 0] 51);rw [c3,K] at a1;have h2:aH (fun k=>k=u) f A1:=by rw [←K];exact aH.below ((Below.refl _ f).alloc (Nat.le_refl _) B)
 have i0:A1.heap.size=f.heap.size+1:=by rw [←K];simp
 rw [K];obtain ⟨A2,U⟩:∃W:World,A1.setCell ⟨u,10,none⟩ V1=W:=⟨_,rfl⟩;have h3:aH (fun k=>k=u) A1 A2:=by rw [←U];exact aH.same ((aL.refl _ _).setCell _)
 have c8:A2.heap.size=f.heap.size+1:=by rw [←U];simpa using i0
 rw [U];obtain ⟨A3,L⟩:∃W:World,A2.alloc D=W:=⟨_,rfl⟩;have a3:=heap_alloc_new A2 (.cells #[.string ⟨#[98,64,97,46,111,114,103]⟩] 9);rw [c4,L] at a3;have h4:aH (fun k=>k=u) A2 A3:=by rw [←L];exact aH.below ((Below.refl _ A2).alloc (Nat.le_refl _) D)
 have f3:A3.heap.size=f.heap.size+2:=by rw [←L];simp [c8]
 rw [L];obtain ⟨A4,X⟩:∃W:World,A3.alloc p=W:=⟨_,rfl⟩;have a4:=heap_alloc_new A3 (.cells #[.int .i64 1,.int .i64 0,.string ⟨#[]⟩,.slice (some ⟨f.heap.size+1,0,none⟩) 1 1,.string ⟨#[]⟩] 45);rw [c5,X] at a4;have h5:aH (fun k=>k=u) A3 A4:=by rw [←X];exact aH.below ((Below.refl _ A3).alloc (Nat.le_refl _) p)
 rw [X];have x7:=g9.out V1 B D p;rw [T,K,U,L,X] at x7;have x8:=heap_setCell_same _ u 11 _ _ V2 x7;obtain ⟨W8,e8⟩:∃W:World,A4.setCell ⟨u,11,none⟩ V2=W:=⟨_,rfl⟩;have h6:aH (fun k=>k=u) A4 W8:=by rw [←e8];exact aH.same ((aL.refl _ _).setCell _)
 rw [e8] at x8 ⊢;have d5:=h6;have d4:=h5.trans d5 (fun _ _ e=>e);have h1:=h4.trans d4 (fun _ _ e=>e);have d3:=h3.trans h1 (fun _ _ e=>e);have d6:=h2.trans d3 (fun _ _ e=>e);have i2:u < f.heap.size:=by rw [←T];exact ah g8.out
 have s1:=d3.some_ a1 (by omega);have s3:=d4.some_ a3 (by rw [c8];omega);have s4:=d5.some_ a4 (by rw [f3];omega);rw [←c3] at s1;rw [←c4,c8] at s3;rw [←c5,f3] at s4;have P8:=(b3.out.below a7.out).chg d6 (fun k e x=>by have:=HP.out.elt e;omega) (fun k e x=>(b1.out k e).2 (by omega));have i3:w.heap.size≤u:=by have:=a2.out.size;have:=H.out.size;omega
 have c7:w4.heap.size≤f.heap.size:=a7.out.size;have h8:w.heap.size≤f.heap.size:=Nat.le_trans a6.out.size c7;have m:∀k,t k→k < f.heap.size:=fun k e=>Nat.lt_of_lt_of_le (b3.out.lt e) c7;have J:∀k,E k→k < f.heap.size:=fun k e=>Nat.lt_of_lt_of_le (b3.out.elt e) c7;have M:V1.ownBlock=some f.heap.size:=by rw [←b7];rfl
 have N:V2.ownBlock=some (f.heap.size+1+1):=by rw [←b8];rfl
 have h9:∀k,fX u V1 V2 k→k < W8.heap.size∧¬E k∧¬t k:=fun k e=>by
  rcases e with e | e | e
  ·rw [e];exact ⟨ah x8,fun z=>by have:=HP.out.elt z;omega,fun z=>(b1.out u z).2 T.symm⟩
  ·rw [M] at e;injection e with e;rw [←e];exact ⟨ah s1,fun z=>by have:=J _ z;omega,fun z=>by have:=m _ z;omega⟩
  ·rw [N] at e;injection e with e;rw [←e];exact ⟨ah s4,fun z=>by have:=J _ z;omega,fun z=>by have:=m _ z;omega⟩
 refine ⟨u,E,t,pp,V1,V2,[(⟨1,false,false,false,[]⟩,.slice none 0 0)],[(⟨1,0,[],[rz],[]⟩,.slice (some ⟨f.heap.size+1,0,none⟩) 1 1)],rfl,⟨P8,⟨_,x8,?_⟩,?_,?_,rfl,rfl,?_,?_,h9⟩,fun k e=>?_,?_⟩
 ·rw [←a8.out];exact ⟨rfl,rfl,rfl,rfl,rfl,rfl⟩
 ·rw [←b7];exact ⟨rfl,.inr ⟨f.heap.size,1,_,rfl,Nat.zero_le _,s1,Nat.le_refl _,by unfold maxLen;omega,rfl,rfl⟩⟩
 ·rw [←b8];exact ⟨rfl,.inr ⟨f.heap.size+1+1,1,_,rfl,Nat.zero_le _,s4,Nat.le_refl _,by unfold maxLen;omega,rfl,rfl⟩⟩
 ·intro x hx;rw [List.mem_singleton.1 hx];exact iE.nil _
 ·intro x hx;rw [List.mem_singleton.1 hx];refine ⟨?_,fun k e=>?_⟩
  ·exact ⟨rfl,.inr ⟨f.heap.size+1,0,1,rfl,Nat.le_refl _,fun j hj=>by rw [Nat.zero_add,Lib.cell_of_heap s3,←Array.getElem?_toList];rfl⟩⟩
  ·have e:f.heap.size+1=k:=by simpa [Value.ownBlock] using e
   rw [←e];refine ⟨ah s3,fun z=>by have:=J _ z;omega,fun z=>by have:=m _ z;omega,fun z=>?_⟩
   rcases z with z | z | z
   ·omega
   ·rw [M] at z;injection z with z;omega
   ·rw [N] at z;injection z with z;omega
 ·rcases e with e | e | e | e | e
  ·have:=g4.out;omega
  ·exact (b1.out k e).1
  ·omega
  ·rw [M] at e;injection e with e;omega
  ·rw [N] at e;injection e with e;omega
 ·exact (a6.out.trans (a7.out.mono a6.out.size)).trans (d6.toBelow (fun k e=>by omega) h8)
end Go.Proofs.YtofpegbpgkkgkaaGreatDoor
