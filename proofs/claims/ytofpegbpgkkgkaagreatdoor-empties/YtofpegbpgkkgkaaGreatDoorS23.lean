import Derived.Test.YtofpegbpgkkgkaaGreatDoorS22
import Derived.Test.YtofpegbpgkkgkaaGreatDoorRows
import Derived.Lib.LaidU8
namespace Go.Proofs.YtofpegbpgkkgkaaGreatDoor
set_option maxHeartbeats 8000000
set_option maxRecDepth 1000000
open Go.RowKit
section
variable {E own:Nat→Prop} {pp gb:Nat} {c:bX} {w:World} {vS vM:Value} {sl:List (ca×Value)} {ml:List (aX×Value)} {g:GS}
theorem gX.mail (h:gX E own pp gb c w vS vM sl ml g) {n:Nat} (o:n < ml.length):∃d a,vM= .slice (some ⟨d,0,none⟩) ml.length a∧d < w.heap.size∧∀i,i < 5→w.cell? ⟨d,n * 5+i,none⟩=(aY ml[n].1 ml[n].2)[i]? :=by
 rcases h.mrow.2 with ⟨_,p⟩ | ⟨l,j,k,e,_,f,_,_,_,b⟩
 ·omega
 ·refine ⟨l,j,e,ah f,fun i m=>?_⟩;rw [Lib.cell_of_heap f,←Array.getElem?_toList,←List.getElem?_take_of_lt (show n * 5+i < ml.length * 5 by omega),b,lU _ _ _ o m]
end
section
variable {E own:Nat→Prop} {pp gb:Nat} {c:bX} {w:World} {vS vM:Value} {sl:List (ca×Value)} {ml:List (aX×Value)} {g g':GS}
theorem JZ (g:GS) (h:g.bad=false):({g with bad:=false}:GS)=g:=by
 cases g
 cases h
 rfl
theorem Df (a8:dX c) (h:gX E own pp gb c w vS vM sl ml g) (hi:hJ g) (u J j:Int) (h1: -9223372036854775808≤u∧u≤9223372036854775807) (h2: -9223372036854775808≤J∧J≤9223372036854775807) (h3: -9223372036854775808≤j∧j≤9223372036854775807) (hk:cM u 12=6):
  Calls Tryz.prog 9 #[.pointer (some ⟨gb,0,none⟩),.agg #[.int .i64 u,.int .i64 J,.int .i64 j]] w (jG E own pp gb c w vS vM g):=by
 obtain ⟨p,x⟩:∃W:World,w.alloc (.cells #[.int .i64 u,.int .i64 J,.int .i64 j] 34)=W:=⟨_,rfl⟩;have M:p.heap[w.heap.size]? =some (.cells #[.int .i64 u,.int .i64 J,.int .i64 j] 34 (0,0)):=by rw [←x];exact heap_alloc_new w _
 have B0:Below w.heap.size w p:=by rw [←x];exact (Below.refl _ _).alloc (Nat.le_refl _) _
 have y:¬(w.heap.size=pp∨own w.heap.size∨fX gb vS vM w.heap.size):=fun e=>by
  rcases e with e | e | e
  ·have:=h.post.elt h.post.epp;omega
  ·have:=h.post.lt e;omega
  ·have:=(h.off _ e).1;omega
 have G0:=h.below B0;have I:sl.length≤100:=by rw [h.slen,hi.len];exact h.post.len
 obtain ⟨K,eK⟩:∃K,cM u 12=K:=⟨_,rfl⟩;have bK:=dt u (n:=12) (by decide);rw [eK] at bK hk;have S:Hid (∀W:World,Calls Tryz.prog 20 #[.int .i64 u,.int .i64 12] W fun e r=>e= .returned (.int .i64 K)∧W=r):=Lib.hid (fun W=>by have:=bZ u 12 W h1.1 h1.2 (by decide) (by decide);rw [eK] at this;exact this)
 have PV:∀(m:Int),0 < m→m≤1000→∃a:Nat,(a:Int) < m∧∀W:World,Calls Tryz.prog 20 #[.int .i64 j,.int .i64 m] W fun e r=>e= .returned (.int .i64 (a:Int))∧W=r:=fun m hm d2=>by
  have hb:=dt j hm;refine ⟨(cM j m).toNat,by omega,fun W=>?_⟩
  have:=bZ j m W h3.1 h3.2 hm (by omega);rw [show ((cM j m).toNat:Int)=cM j m by omega]
  exact this
 have c9:=Lib.hid (iz G0 J h2.1 h2.2 I);have d:=Lib.hid G0;have f:=Lib.hid hi;have Q:=Lib.hid B0;have d0:=Lib.hid M;have V:=Lib.hid x;have b5:=Lib.hid y;have b6:=Lib.hid a8;have z0:w.heap.size < p.heap.size:=ah M;have o0:p.cell? ⟨w.heap.size,0,none⟩=some (.int .i64 u):=by rw [Lib.cell_of_heap M];rfl
 have o1:p.cell? ⟨w.heap.size,1,none⟩=some (.int .i64 J):=by rw [Lib.cell_of_heap M];rfl
 have o2:p.cell? ⟨w.heap.size,2,none⟩=some (.int .i64 j):=by rw [Lib.cell_of_heap M];rfl
 have b7:=Lib.hid o2;have c0:p.cell? ⟨gb,0,none⟩=some (.pointer (some ⟨pp,0,none⟩)):=G0.cells.1;have F:=Lib.hid I;have b8:=Lib.hid PV;clear h hi a8 h1 h2 h3 M B0 x G0 y eK I PV;subst hk;obtain ⟨a,ha,a9⟩:=b8.out 1000 (by decide) (by decide);have D:=Lib.hid a9;obtain ⟨G,cs,eS⟩:=aE (aF d.out.srow);subst eS;have s:=d.out.below ((Below.refl _ p).drew);have R:=Lib.hid s;have t:=f.out.len;have i:=d.out.slen;have q:=d.out.cells.2.1;have a0:=d.out.cells.2.2.2.2.1;have a7:=f.out.bad;rw [a7] at a0;have d1:gb < p.heap.size:=aC c0;clear a9 bK
 by_cases hl:g.l.length < 100
 ·obtain ⟨L,eL⟩:∃L,g.l.length=L:=⟨_,rfl⟩
  have C:Hid (Calls Tryz.prog 13 #[.pointer (some ⟨pp,0,none⟩),.int .i64 (a:Int)] p.drew fun e r=>e= .returned (.tuple #[.int .i64 (L:Int),.string (bs (mX c)),.int .i64 0])∧∃b,gX E b pp gb c r (.slice G sl.length cs) vM sl ml {g with l:=g.l++[some (dI c (a:Int))]}∧(∀k,b k→own k∨p.drew.heap.size≤k)∧aH (fun k=>k=pp∨own k) p.drew r∧r.cell? ⟨w.heap.size,2,none⟩=some (.int .i64 j)):=Lib.hid (by
   have hh:=s.post.conn (a:Int) (by omega) (by omega) hl;rw [eL] at hh;refine hh.mono ?_;rintro e B ⟨rfl,c8⟩;obtain ⟨b,v,a2,Y⟩:=R.out.call c8 rfl;have c7:¬(w.heap.size=pp∨own w.heap.size):=fun e=>b5.out (e.imp id .inl)
   exact ⟨rfl,b,v,a2,Y,(World.cell?_of_block (Y.block w.heap.size z0 c7)).trans b7.out⟩)
  clear s;have HL:Hid (sl.length=L):=Lib.hid (by rw [i,t,eL]);clear q a0 eL t i;go_enter Tryz.func9,Tryz.ntmps9;go_wp2_with fail
  rw [V.out];refine (S.out _).mono ?_;rintro e w1 ⟨rfl,rfl⟩;go_wp2_with fail
  go_region_held3 (fun r=>r.cell? ⟨gb,0,none⟩=some (.pointer (some ⟨pp,0,none⟩))∧r.cell? ⟨w.heap.size,2,none⟩=some (.int .i64 j))
   (first | exact S2 | exact ⟨c0,o2⟩)
   (first
    | (go_at_call 20;refine (D.out _).mono ?_;rintro e wx ⟨rfl,rfl⟩)
    | (go_at_call 13;refine C.out.mono ?_;rintro e B ⟨rfl,b,v,a2,Y,p2⟩;have S2:=And.intro v.cells.1 p2;have P:=Lib.hid v;have b3:=Lib.hid a2;have b4:=Lib.hid Y;clear v a2 Y))
  have v:=P.out;have q:=v.cells.2.1;have X:=v.below ((Below.refl _ B).drew);obtain ⟨gm,A,W3,r1,r2,r3,r4,r5,r6⟩:=X.appS (a:Int) (by have:=F.out;omega);have c3:Hid ((Builtin.append_ #[39,39] 39 #[.slice G sl.length cs,.slice (some ⟨B.heap.size,0,none⟩) 1 1]).run Tryz.prog (B.alloc (.cells #[.int .i64 (a:Int),.bool false,.bool false,.bool false,.slice none 0 0] 51)).drew= .ok (.slice (some ⟨gm,0,none⟩) (sl.length+1) A) W3):=Lib.hid r1;have Z:∀o:Obj,(B.alloc o).cell? ⟨gb,10,none⟩=some (.slice G sl.length cs):=fun o=>(((Below.refl _ B).alloc (Nat.le_refl _) o).cell (aC q)).trans q;have T:=Lib.hid r4;have U:=Lib.hid r5;have c4:=Lib.hid r6;clear v X r1 r4 r5 r6 P;go_wp2_with fail
  go_region_law (first
   | (refine gD rfl _ _ 39 39 rfl _ _ _ W3 rfl rfl c3.out ?_)
   | (go_simp;go_at_call 20;refine (D.out _).mono ?_;rintro e wx ⟨rfl,rfl⟩;dsimp only))
  all_goals
   obtain ⟨W4,a6⟩:∃W:World,W3.setCell ⟨gb,10,none⟩ (.slice (some ⟨gm,0,none⟩) (sl.length+1) A)=W:=⟨_,rfl⟩;have O:=T.out;have q5:=U.out;rw [a6] at O q5 ⊢;have c5:=O.cells.2.1;have c6:W4.cell? ⟨gb,13,none⟩=some (.bool false):=by rw [O.cells.2.2.2.2.1,←f.out.bad]
   have d3:=O.cells.2.2.2.2.2 13;obtain ⟨N2,a4⟩:∃N,sl.length+1=N:=⟨_,rfl⟩;rw [a4] at c5
   have hw:IntKind.i64.wrap ((N2:Int) - 1)=(L:Int):=by
    have h1:=HL.out;have h2:=F.out;rw [IntKind.wrap_i64];omega
   have c1:=Lib.hid O;have c2:=Lib.hid q5;clear O q5 a6 T U r2 r3 q Z p2 a4;go_wp2_with fail
   refine bodyPost_end (results_none rfl _ _ _) rfl ?_;obtain ⟨H,b2⟩:=c1.out.putB false;have b0:hU c g (Ee c g (a:Int)):= .conn g (a:Int) (by omega) (by omega) hl;have H:=H.same (JZ (Ee c g (a:Int)) f.out.bad)
   exact ⟨rfl,1,Ee c g (a:Int),by omega,fy.one b0,d.out.step b6.out f.out b0,cX.from Q.out (cX.from ((Below.refl _ p).drew) (cX.called b3.out b4.out (cX.from ((Below.refl _ B).drew) (cX.turned c2.out (fun k e=>by
    rcases e with e | e | e
    ·exact .inl (.inl e)
    ·have e:gm=k:=by simpa [Value.ownBlock] using e
     rw [←e];exact c4.out.imp (fun z=> .inr (.inl z)) id
    ·exact .inl (.inr (.inr e))) (cX.turned b2 (fun k e=> .inl e) (cX.refl H))))))⟩
 ·have C:=Lib.hid (s.post.connNo (a:Int) hl)
  have a5:sl.length=100:=by
   have h1:=F.out;omega
  rw [a5] at q;have c6:=d.out.cells.2.2.2.2.2 13;clear s hl t i;go_enter Tryz.func9,Tryz.ntmps9;go_wp2_with fail
  rw [V.out];refine (S.out _).mono ?_;rintro e w1 ⟨rfl,rfl⟩;go_wp2_with fail
  go_region_held3 (fun r=>r.cell? ⟨gb,0,none⟩=some (.pointer (some ⟨pp,0,none⟩))∧r.cell? ⟨w.heap.size,2,none⟩=some (.int .i64 j))
   (exact ⟨c0,o2⟩)
   (first
    | (go_at_call 20;refine (D.out _).mono ?_;rintro e wx ⟨rfl,rfl⟩)
    | (go_at_call 13;refine C.out.mono ?_;rintro e B ⟨rfl,rfl⟩))
  go_wp2_with fail
  refine bodyPost_end (results_none rfl _ _ _) rfl ?_;obtain ⟨H,b2⟩:=R.out.putB false;have H:=H.same (show _=g by rw [←f.out.bad]);exact ⟨rfl,0,g,by omega,.nil g,f.out,cX.from Q.out (cX.from ((Below.refl _ p).drew) (cX.turned b2 (fun k e=> .inl e) (cX.refl H)))⟩
end
section
variable {E own:Nat→Prop} {pp gb:Nat} {c:bX} {w w' W:World} {vS vM:Value} {sl:List (ca×Value)} {ml:List (aX×Value)} {g g':GS}
theorem gX.callT (h:gX E own pp gb c w vS vM sl ml g) {n:aa} {j:List UInt8} {A:List (Option bG)} {p:Option aQ} {z:Nat→Int×Int} (P:mr E own pp c w n j A p z w') (s:Below w'.heap.size w' W):w'.cell? ⟨gb,12,none⟩=some (.int .i64 g.S.time)∧w'.frozen? ⟨gb,12,none⟩=false∧cX E own pp gb c w vS vM {g with S:=n,recs:=j,l:=A,tk:=p,d:=z} (W.setCell ⟨gb,12,none⟩ (.int .i64 n.time)):=by
 obtain ⟨b,Q,y,o⟩:=P;have i:∀k,fX gb vS vM k→¬(k=pp∨own k):=fun k e x=>x.elim (fun x=>(h.off k e).2.1 (by rw [x];exact h.post.epp)) (h.off k e).2.2;have q:∀{m:List (List UInt8)} {v:Value},iE E own gb vS vM w m v→iE E b gb vS vM w' m v:=fun t=>t.chg o (fun k e x=>x.elim (fun x=>(t.off k e).2.1 (by rw [x];exact h.post.epp)) (t.off k e).2.2.1) y (fun k e=> .inl e);obtain ⟨C,F,G,H,I,J,K,L⟩:=h.blk;have r:=o.some_ F (i _ (.inl rfl));have D:=ae s r;have O:aH (fun k=>k=gb) W (W.setCell ⟨gb,12,none⟩ (.int .i64 n.time)):=aH.same ((aL.refl _ _).setCell _);have N:aH (fun _=>False) w' W:=aH.below s;have f:aH (fun k=>k=gb) w' (W.setCell ⟨gb,12,none⟩ (.int .i64 n.time)):=(aH.below s).trans O (fun _ _ e=>e);have M:=heap_setCell_same W gb 12 _ _ (.int .i64 n.time) D;have a:∀k,fX gb vS vM k→k < w'.heap.size∧¬E k∧¬b k:=fun k e=>⟨Nat.lt_of_lt_of_le (h.off k e).1 o.size,(h.off k e).2.1,fun x=>(y k x).elim (h.off k e).2.2 (fun x=>by have:=(h.off k e).1;omega)⟩;have B:∀{m:List (List UInt8)} {v:Value},iE E own gb vS vM w m v→iE E b gb vS vM (W.setCell ⟨gb,12,none⟩ (.int .i64 n.time)) m v:=fun t=>(q t).chg f (fun k e x=>(t.off k e).2.2.2 (.inl x)) (fun k e=> .inl e) (fun k e=> .inl e);refine ⟨by rw [Lib.cell_of_heap r];exact K,Lib.frozen_of_heap r 12,b,vS,vM,sl,ml,⟨Q.chg f (fun k e x=>(a gb (.inl rfl)).2.1 (by rw [←x];exact e)) (fun k e x=>(a gb (.inl rfl)).2.2 (by rw [←x];exact e)),⟨_,M,by simpa using G,by rw [Array.getElem?_setIfInBounds_ne (by decide)];exact H,by rw [Array.getElem?_setIfInBounds_ne (by decide)];exact I,by rw [Array.getElem?_setIfInBounds_ne (by decide)];exact J,by rw [Array.getElem?_setIfInBounds_self_of_lt (by omega)],by rw [Array.getElem?_setIfInBounds_ne (by decide)];exact L⟩,bC (bC h.srow o (fun k e=>i k (.inr (.inl e)))) f (fun k e=>((h.tag).1 k e).1),bC (bC h.mrow o (fun k e=>i k (.inr (.inr e)))) f (fun k e=>(h.tag).2 k e),h.seq,h.meq,fun x u=>B (h.stos x u),fun x u=>B (h.mtos x u),fun k e=>⟨Nat.lt_of_lt_of_le (a k e).1 f.size,(a k e).2⟩⟩,fun k e=>e.elim (fun e=>(y k e).imp id .inr) (fun e=> .inr (.inl e)),(o.mono (fun k _ e=>e.imp id .inl)).trans f (fun k _ e=> .inr (.inr (.inl e)))⟩
theorem Dj (J:dX c) (h:gX E own pp gb c w vS vM sl ml g) (hi:hJ g) (o D f:Int) (h1: -9223372036854775808≤o∧o≤9223372036854775807) (h2: -9223372036854775808≤D∧D≤9223372036854775807) (h3: -9223372036854775808≤f∧f≤9223372036854775807) (hk:cM o 12=7):
  Calls Tryz.prog 9 #[.pointer (some ⟨gb,0,none⟩),.agg #[.int .i64 o,.int .i64 D,.int .i64 f]] w (jG E own pp gb c w vS vM g):=by
 obtain ⟨i,u⟩:∃W:World,w.alloc (.cells #[.int .i64 o,.int .i64 D,.int .i64 f] 34)=W:=⟨_,rfl⟩;have F:i.heap[w.heap.size]? =some (.cells #[.int .i64 o,.int .i64 D,.int .i64 f] 34 (0,0)):=by rw [←u];exact heap_alloc_new w _
 have Z:Below w.heap.size w i:=by rw [←u];exact (Below.refl _ _).alloc (Nat.le_refl _) _
 have v:¬(w.heap.size=pp∨own w.heap.size∨fX gb vS vM w.heap.size):=fun e=>by
  rcases e with e | e | e
  ·have:=h.post.elt h.post.epp;omega
  ·have:=h.post.lt e;omega
  ·have:=(h.off _ e).1;omega
 have U:=h.below Z;have C:sl.length≤100:=by rw [h.slen,hi.len];exact h.post.len
 obtain ⟨K,eK⟩:∃K,cM o 12=K:=⟨_,rfl⟩;have bK:=dt o (n:=12) (by decide);rw [eK] at bK hk;have z:Hid (∀W:World,Calls Tryz.prog 20 #[.int .i64 o,.int .i64 12] W fun e w'=>e= .returned (.int .i64 K)∧W=w'):=Lib.hid (fun W=>by have:=bZ o 12 W h1.1 h1.2 (by decide) (by decide);rw [eK] at this;exact this)
 have PV:∀(m:Int),0 < m→m≤1000→∃a:Nat,(a:Int) < m∧∀W:World,Calls Tryz.prog 20 #[.int .i64 f,.int .i64 m] W fun e w'=>e= .returned (.int .i64 (a:Int))∧W=w':=fun m hm b3=>by
  have hb:=dt f hm;refine ⟨(cM f m).toNat,by omega,fun W=>?_⟩
  have:=bZ f m W h3.1 h3.2 hm (by omega);rw [show ((cM f m).toNat:Int)=cM f m by omega]
  exact this
 have a9:=Lib.hid (iz U D h2.1 h2.2 C);have q:=Lib.hid U;have y:=Lib.hid hi;have x:=Lib.hid Z;have b1:=Lib.hid F;have A:=Lib.hid u;have a0:=Lib.hid v;have a1:=Lib.hid J;have z0:w.heap.size < i.heap.size:=ah F;have o0:i.cell? ⟨w.heap.size,0,none⟩=some (.int .i64 o):=by rw [Lib.cell_of_heap F];rfl
 have o1:i.cell? ⟨w.heap.size,1,none⟩=some (.int .i64 D):=by rw [Lib.cell_of_heap F];rfl
 have X:i.cell? ⟨w.heap.size,2,none⟩=some (.int .i64 f):=by rw [Lib.cell_of_heap F];rfl
 have a4:=Lib.hid X;have I:i.cell? ⟨gb,0,none⟩=some (.pointer (some ⟨pp,0,none⟩)):=U.cells.1;have b0:=Lib.hid C;have a5:=Lib.hid PV;clear h hi J h1 h2 h3 F Z u U v eK C PV;subst hk;obtain ⟨a,ha,P⟩:=a5.out 30 (by decide) (by decide);have r:=Lib.hid P;have b:=Lib.hid (q.out.below ((Below.refl _ i).drew));have s:=q.out.cells.2.2.2.1;have k:=q.out.post.sok.time;obtain ⟨N,p⟩:∃N,g.S.time=N:=⟨_,rfl⟩;have k:N≤1000000000:=by rw [←p];exact k
 rw [p] at s;obtain ⟨T,V⟩:∃T,N+a=T:=⟨_,rfl⟩;have hw:IntKind.i64.wrap ((N:Int)+(a:Int))=(T:Int):=by rw [IntKind.wrap_i64];omega
 have HN:=Lib.hid p;have HT:=Lib.hid V;clear P bK
 by_cases h9:T≤1000000000
 ·cases j:g.tk with
  | some t=>
   have B:=b.out.post;rw [j] at B;have G:=Lib.hid (B.tickBusy (T:Int) (by rw [p];omega));clear B j p V;go_enter Tryz.func9,Tryz.ntmps9;go_wp2_with fail
   rw [A.out];refine (z.out _).mono ?_;rintro e w1 ⟨rfl,rfl⟩;go_wp2_with fail
   go_region_held3 (fun w'=>w'.cell? ⟨gb,0,none⟩=some (.pointer (some ⟨pp,0,none⟩))∧w'.cell? ⟨w.heap.size,2,none⟩=some (.int .i64 f)∧w'.cell? ⟨gb,12,none⟩=some (.int .i64 N))
    (exact ⟨I,X,s⟩)
    (first
     | (go_at_call 20;refine (r.out _).mono ?_;rintro e wx ⟨rfl,rfl⟩)
     | (go_at_call 23;refine G.out.mono ?_;rintro e Y ⟨rfl,rfl⟩))
   all_goals
    go_wp2_with fail
    refine bodyPost_end (results_none rfl _ _ _) rfl ?_;exact ⟨rfl,0,g,by omega,.nil g,y.out,cX.from x.out (cX.from ((Below.refl _ i).drew) (cX.refl b.out))⟩
  | none=>
   have B:=b.out.post;rw [j] at B;have Q:hU c g (yj c g T):= .tick g T ⟨by rw [p];omega,h9⟩ j
   have H:=Lib.hid Q;have R:=(b.out.post.laters.1 T ⟨by rw [p];omega,h9⟩).2
   have G:Hid (Calls Tryz.prog 23 #[.pointer (some ⟨pp,0,none⟩),.int .i64 (T:Int)] i.drew fun e w'=>e= .returned (.int .i64 0)∧w'.cell? ⟨gb,0,none⟩=some (.pointer (some ⟨pp,0,none⟩))∧w'.cell? ⟨gb,12,none⟩=some (.int .i64 N)∧w'.frozen? ⟨gb,12,none⟩=false∧w'.cell? ⟨w.heap.size,2,none⟩=some (.int .i64 f)∧cX E own pp gb c i.drew vS vM (yj c g T) (w'.drew.setCell ⟨gb,12,none⟩ (.int .i64 T))):=Lib.hid (by
    refine (B.tick T ⟨by rw [p];omega,h9⟩).mono ?_;rintro e Y ⟨rfl,O⟩;obtain ⟨k1,k2,k3⟩:=b.out.callT O ((Below.refl _ Y).drew);obtain ⟨a8,_,_,a3⟩:=O;have a6:¬(w.heap.size=pp∨own w.heap.size):=fun e=>a0.out (e.imp id .inl);have M:¬(gb=pp∨own gb):=fun e=>e.elim (fun e=>(b.out.off gb (.inl rfl)).2.1 (by rw [e];exact b.out.post.epp)) (b.out.off gb (.inl rfl)).2.2;rw [HN.out] at k1;rw [R] at k3
    have e:({g with S:=(dw c.life (⟨g.S.items,T⟩,g.recs) g.S.live).1,recs:=(dw c.life (⟨g.S.items,T⟩,g.recs) g.S.live).2,l:=g.l,tk:=none,d:=oS g.S (dw c.life (⟨g.S.items,T⟩,g.recs) g.S.live).1 g.d}:GS)=yj c g T:=by
     unfold yj;rw [←j]
    rw [e] at k3
    exact ⟨rfl,(World.cell?_of_block (a3.block gb (aC I) M)).trans I,k1,k2,(World.cell?_of_block (a3.block w.heap.size z0 a6)).trans a4.out,k3⟩)
   clear B j Q R p V;go_enter Tryz.func9,Tryz.ntmps9;go_wp2_with fail
   rw [A.out];refine (z.out _).mono ?_;rintro e w1 ⟨rfl,rfl⟩;go_wp2_with fail
   go_region_held3 (fun w'=>w'.cell? ⟨gb,0,none⟩=some (.pointer (some ⟨pp,0,none⟩))∧w'.cell? ⟨w.heap.size,2,none⟩=some (.int .i64 f)∧w'.cell? ⟨gb,12,none⟩=some (.int .i64 N))
    (first | exact S2 | exact ⟨I,X,s⟩)
    (first
     | (go_at_call 20;refine (r.out _).mono ?_;rintro e wx ⟨rfl,rfl⟩)
     | (go_at_call 23;refine G.out.mono ?_;rintro e Y ⟨rfl,q0,a7,b2,q2,L⟩;have S2:=And.intro q0 (And.intro q2 a7);have a2:=Lib.hid L;clear L))
   go_wp2_with fail
   go_region_law (first
    | (go_simp;go_at_call 20;refine (r.out _).mono ?_;rintro e wx ⟨rfl,rfl⟩;dsimp only))
   all_goals
    go_wp2_with fail
    refine bodyPost_end (results_none rfl _ _ _) rfl ?_;exact ⟨rfl,1,yj c g T,by omega,fy.one H.out,q.out.step a1.out y.out H.out,cX.from x.out (cX.from ((Below.refl _ i).drew) a2.out)⟩
 ·have G:=Lib.hid (b.out.post.tickNo (T:Int) (by omega));clear p V;go_enter Tryz.func9,Tryz.ntmps9;go_wp2_with fail
  rw [A.out];refine (z.out _).mono ?_;rintro e w1 ⟨rfl,rfl⟩;go_wp2_with fail
  go_region_held3 (fun w'=>w'.cell? ⟨gb,0,none⟩=some (.pointer (some ⟨pp,0,none⟩))∧w'.cell? ⟨w.heap.size,2,none⟩=some (.int .i64 f)∧w'.cell? ⟨gb,12,none⟩=some (.int .i64 N))
   (exact ⟨I,X,s⟩)
   (first
    | (go_at_call 20;refine (r.out _).mono ?_;rintro e wx ⟨rfl,rfl⟩)
    | (go_at_call 23;refine G.out.mono ?_;rintro e Y ⟨rfl,rfl⟩))
  all_goals
   go_wp2_with fail
   refine bodyPost_end (results_none rfl _ _ _) rfl ?_;exact ⟨rfl,0,g,by omega,.nil g,y.out,cX.from x.out (cX.from ((Below.refl _ i).drew) (cX.refl b.out))⟩
end
section
variable {E own:Nat→Prop} {pp gb:Nat} {c:bX} {w:World} {vS vM:Value} {sl:List (ca×Value)} {ml:List (aX×Value)} {g g':GS}
theorem GR (h:gX E own pp gb c w vS vM sl ml g):
  Calls Tryz.prog 21 #[.pointer (some ⟨pp,0,none⟩)] w fun e q=>∃p,e= .returned (.int .i64 p)∧∃k g',k≤1∧fy c k g g'∧(hJ g→dX c→hJ g')∧g'.tk=none∧cX E own pp gb c w vS vM g' q:=by
 have d:=h.post
 cases b:g.tk with
 | none=>
  rw [b] at d;refine d.hangIdle.mono ?_;rintro e r ⟨rfl,rfl⟩;exact ⟨_,rfl,0,g,by omega,.nil g,fun i _=>i,b,cX.refl h⟩
 | some t=>
  rw [b] at d;refine d.hang.mono ?_;rintro e r ⟨rfl,j⟩;obtain ⟨l,m,n,o⟩:=h.call j (h.post.laters.2 t b).2;have a:hU c g (Bt c g t):= .over g t b;exact ⟨_,rfl,1,Bt c g t,by omega,fy.one a,fun i f=>h.step f i a,rfl,cX.called n o (cX.refl m)⟩
theorem Dh (R:dX c) (h:gX E own pp gb c w vS vM sl ml g) (hi:hJ g) (o J f:Int) (h1: -9223372036854775808≤o∧o≤9223372036854775807) (h2: -9223372036854775808≤J∧J≤9223372036854775807) (h3: -9223372036854775808≤f∧f≤9223372036854775807) (hk:cM o 12=11):
  Calls Tryz.prog 9 #[.pointer (some ⟨gb,0,none⟩),.agg #[.int .i64 o,.int .i64 J,.int .i64 f]] w (jG E own pp gb c w vS vM g):=by
 obtain ⟨H,q⟩:∃W:World,w.alloc (.cells #[.int .i64 o,.int .i64 J,.int .i64 f] 34)=W:=⟨_,rfl⟩;have L:H.heap[w.heap.size]? =some (.cells #[.int .i64 o,.int .i64 J,.int .i64 f] 34 (0,0)):=by rw [←q];exact heap_alloc_new w _
 have B0:Below w.heap.size w H:=by rw [←q];exact (Below.refl _ _).alloc (Nat.le_refl _) _
 have x:¬(w.heap.size=pp∨own w.heap.size∨fX gb vS vM w.heap.size):=fun e=>by
  rcases e with e | e | e
  ·have:=h.post.elt h.post.epp;omega
  ·have:=h.post.lt e;omega
  ·have:=(h.off _ e).1;omega
 have Y:=h.below B0;have I:sl.length≤100:=by rw [h.slen,hi.len];exact h.post.len
 obtain ⟨K,eK⟩:∃K,cM o 12=K:=⟨_,rfl⟩;have bK:=dt o (n:=12) (by decide);rw [eK] at bK hk;have b0:Hid (∀W:World,Calls Tryz.prog 20 #[.int .i64 o,.int .i64 12] W fun e w'=>e= .returned (.int .i64 K)∧W=w'):=Lib.hid (fun W=>by have:=bZ o 12 W h1.1 h1.2 (by decide) (by decide);rw [eK] at this;exact this)
 have PV:∀(m:Int),0 < m→m≤1000→∃a:Nat,(a:Int) < m∧∀W:World,Calls Tryz.prog 20 #[.int .i64 f,.int .i64 m] W fun e w'=>e= .returned (.int .i64 (a:Int))∧W=w':=fun m hm c6=>by
  have hb:=dt f hm;refine ⟨(cM f m).toNat,by omega,fun W=>?_⟩
  have:=bZ f m W h3.1 h3.2 hm (by omega);rw [show ((cM f m).toNat:Int)=cM f m by omega]
  exact this
 have a8:=Lib.hid (iz Y J h2.1 h2.2 I);have C:=Lib.hid Y;have p:=Lib.hid hi;have z:=Lib.hid B0;have c4:=Lib.hid L;have b4:=Lib.hid q;have c2:=Lib.hid x;have B:=Lib.hid R;have z0:w.heap.size < H.heap.size:=ah L;have o0:H.cell? ⟨w.heap.size,0,none⟩=some (.int .i64 o):=by rw [Lib.cell_of_heap L];rfl
 have o1:H.cell? ⟨w.heap.size,1,none⟩=some (.int .i64 J):=by rw [Lib.cell_of_heap L];rfl
 have o2:H.cell? ⟨w.heap.size,2,none⟩=some (.int .i64 f):=by rw [Lib.cell_of_heap L];rfl
 have a7:=Lib.hid o2;have c0:H.cell? ⟨gb,0,none⟩=some (.pointer (some ⟨pp,0,none⟩)):=Y.cells.1;have c3:=Lib.hid I;have b3:=Lib.hid PV;clear h hi R h1 h2 h3 L B0 q Y x eK I PV;subst hk;obtain ⟨a,ha,V⟩:=b3.out 2 (by decide) (by decide);have a9:=Lib.hid V;clear V bK;go_enter Tryz.func9,Tryz.ntmps9;go_wp2_with fail
 rw [b4.out];refine (b0.out _).mono ?_;rintro e w1 ⟨rfl,rfl⟩;go_wp2_with fail
 refine a8.out.mono ?_;rintro e w2 ⟨r,rfl,hr,t⟩;have p2:w2.cell? ⟨w.heap.size,2,none⟩=some (.int .i64 f):=(t.cell z0).trans a7.out;have HR:=Lib.hid hr;have A:=Lib.hid t;have Z:=C.out.below t;have d0:=Z.cells.1;have M:=Lib.hid Z;have HH:=Lib.hid (GR Z);clear hr t Z;go_wp2_with fail
 refine (a9.out _).mono ?_;rintro e w3 ⟨rfl,rfl⟩
 by_cases b5:a=0
 ·subst b5;go_wp2_with fail
  refine HH.out.mono ?_;rintro e w3 ⟨er,rfl,k,g2,b7,d,j,_,l⟩;have F:=Lib.hid d;have D:=Lib.hid j;have G:=Lib.hid l;clear d j l;go_wp2_with fail
  refine bodyPost_ret (v:= .tuple #[]) (by simp [results,Tryz.results9,go_sem]) rfl ?_;exact ⟨rfl,k,g2,by omega,F.out,D.out p.out B.out,cX.from z.out (cX.from A.out G.out)⟩
 ·have b6:a=1:=by omega
  subst b6
  rcases HR.out with rfl | ⟨n,rfl,hn,T⟩
  ·go_wp2_with fail
   refine HH.out.mono ?_;rintro e w3 ⟨er,rfl,k,g2,b7,d,j,_,l⟩;have F:=Lib.hid d;have D:=Lib.hid j;have G:=Lib.hid l;clear d j l;go_wp2_with fail
   refine bodyPost_ret (v:= .tuple #[]) (by simp [results,Tryz.results9,go_sem]) rfl ?_;exact ⟨rfl,k,g2,by omega,F.out,D.out p.out B.out,cX.from z.out (cX.from A.out G.out)⟩
  ·have hx:g.seats[n]? =some sl[n].1:=by rw [←C.out.seq,List.getElem?_map,List.getElem?_eq_getElem hn];rfl
   obtain ⟨s,hs⟩:=qX p.out hx T;have HC:=Lib.hid (M.out.post.close n hs);have HS:=Lib.hid hs;have HX:=Lib.hid hx;have c7:¬(n:Int) < 0:=by omega
   clear hs hx T;go_wp2_with fail
   refine HC.out.mono ?_;rintro e w3 ⟨rfl,U⟩;obtain ⟨c1,O,a2,a3⟩:=M.out.call U rfl;have P:=O.cells.2.1;obtain ⟨sb,c5,ev,X,S⟩:=O.seat hn;rw [ev] at P;have d3:w3.cell? ⟨sb,n * 5+3,none⟩=some (.bool sl[n].1.closed):=X 3 (by decide);have f3:=S (n * 5+3);have b8:(n:Int) < (sl.length:Int):=by omega
   obtain ⟨N,eN⟩:∃N,sl.length=N:=⟨_,rfl⟩;rw [eN] at P b8;obtain ⟨cl,Q⟩:∃b,sl[n].1.closed=b:=⟨_,rfl⟩;rw [Q] at d3;obtain ⟨b1,b2⟩:=O.putS (n:=n) (i:=3) (u:= .bool true) (y:=({sl[n].1 with closed:=true},sl[n].2)) hn (by decide) ev rfl (O.stos sl[n] (List.getElem_mem hn));have a5:=Lib.hid b1;have a6:=Lib.hid b2;have a0:=Lib.hid a2;have a4:=Lib.hid a3;clear O a2 a3 b1 b2 X S ev eN Q U HC HH;go_wp2_with fail
   refine bodyPost_end (results_none rfl _ _ _) rfl ?_;have d:hU c g (Cv g n sl[n].1):= .close g n s sl[n].1 HS.out HX.out;exact ⟨rfl,1,Cv g n sl[n].1,by omega,fy.one d,C.out.step B.out p.out d,cX.from z.out (cX.from A.out (cX.called a0.out a4.out (cX.turned a6.out (fun k e=> .inl e) (cX.refl a5.out))))⟩
end
open Go.ChangeShapes Go.WideShapes Go.RowKit Go.Deep
section
variable {H:Type} {enc:TypeId×Value→H} {w:World} {base:Nat} {spare:Nat→Bool} {held:Bool}
theorem qE {n:Int} (h:(Lit.int .i64 n).wf=true):kN n:=by
 simp only [Lit.wf,Bool.and_eq_true,decide_eq_true_eq] at h;exact h
theorem tW:Tryz.prog.cellsOf 34=3:=by kernel_rfl
theorem Co:Tryz.prog.bytesOf 34=24:=by kernel_rfl
theorem JJ {α:Type} {l:List α} (h:l.length=3):∃a b c,l=[a,b,c]:=by
 match l,h with
 | [a,b,c],_=>exact ⟨a,b,c,rfl⟩
theorem FB {a:Nat} {f:List Value} {x:DataW H×List MemPlace} (h:DataW.trod enc Tryz.prog w base spare held a 34 f=some x):
  ∃o:Int×Int×Int,f=[.int .i64 o.1,.int .i64 o.2.1,.int .i64 o.2.2]∧kN o.1∧kN o.2.1∧kN o.2.2:=by
 obtain ⟨A,n,_,rfl,l,m,e⟩:=DataW.trod_struct Tryz.underlying34 h;rw [tW] at l;obtain ⟨b,c,d,rfl⟩:=JJ l;obtain ⟨v,y,z,rfl⟩:=JJ m;have k:DataW.trod enc Tryz.prog w base spare held n 3 (([b,c,d].drop 0).take (Tryz.prog.cellsOf 3))=some v:=e 0 _ rfl;have g1:DataW.trod enc Tryz.prog w base spare held n 3 (([b,c,d].drop 1).take (Tryz.prog.cellsOf 3))=some y:=e 1 _ rfl;have g2:DataW.trod enc Tryz.prog w base spare held n 3 (([b,c,d].drop 2).take (Tryz.prog.cellsOf 3))=some z:=e 2 _ rfl;simp only [EG,List.drop_zero,List.drop_succ_cons,List.take_succ_cons,List.take_zero] at k g1 g2;obtain ⟨p,g,_,s⟩:=DataW.trod_int Tryz.underlying3 k;obtain ⟨q,i,_,t⟩:=DataW.trod_int Tryz.underlying3 g1;obtain ⟨r,j,_,u⟩:=DataW.trod_int Tryz.underlying3 g2;simp only [List.cons.injEq,and_true] at g i j;exact ⟨(p,q,r),by rw [g,i,j],qE s,qE t,qE u⟩
theorem Hv (l:List (Int×Int×Int)):(iA l).length=l.length * 3:=by
 induction l with
 | nil=>rfl
 | cons x l ih=>
  show ([Value.int .i64 x.1,.int .i64 x.2.1,.int .i64 x.2.2]++iA l).length=_;rw [List.length_append,ih,List.length_cons];simp only [List.length_cons,List.length_nil];omega
theorem uR {f:Nat} {s:List Value} {x:DataW H×List MemPlace} (h:DataW.trod enc Tryz.prog w base spare held f 22 s=some x) (J:(x.1.weights Tryz.prog 22).all (·≤reachBytes)=true):
  ∃(v:Value) (l:List (Int×Int×Int)),s=[v]∧bg w v l.length 3 (iA l)∧l.length * 24≤140737488351232∧∀o∈l,kN o.1∧kN o.2.1∧kN o.2.2:=by
 rcases open_slice Tryz.underlying22 h with ⟨rfl,rfl⟩ | ⟨a,b,B,m,n,D,K,rfl,_,F,L,q,rfl,I⟩
 ·exact ⟨_,[],rfl,⟨rfl,.inl ⟨rfl,_,_,rfl⟩⟩,by decide,fun _ h=>by cases h⟩
 ·have G:b≤m:=by rw [q];split <;> omega
  have A:=zx Tryz.underlying22 J;simp only [List.length_map,List.length_range,Co] at A
  have d:∀i,i < b→∃o:Int×Int×Int,(∀j,j < 3→w.cell? (a.add (i * 3+j))=[Value.int .i64 o.1,.int .i64 o.2.1,.int .i64 o.2.2][j]?)∧kN o.1∧kN o.2.1∧kN o.2.2:=fun i g=>by
   obtain ⟨C,t,E⟩:=I i (by omega);obtain ⟨o,e,r⟩:=FB E;rw [tW] at t;obtain ⟨_,_,c⟩:=World.cells?_some t;refine ⟨o,fun j y=>?_,r⟩;have:=c j y;rw [add_add] at this;rw [this,e]
  obtain ⟨S,u⟩:=choose_lt d;have p:((List.range b).map S).length=b:=by simp
  refine ⟨_,(List.range b).map S,rfl,?_,by rw [p];exact A,fun o r=>?_⟩
  ·rw [p];refine J4 (by decide) (by rw [Hv,p]) F fun j y=>?_;obtain ⟨k,i,z,g,rfl⟩:∃k i,k < b∧i < 3∧j=k * 3+i:=⟨j / 3,j % 3,by omega,by omega,by omega⟩
   rw [(u k z).1 i g,qd _ k i (by rw [p];exact z) g];simp
  ·obtain ⟨i,g,rfl⟩:=List.mem_map.1 r;exact (u i (List.mem_range.1 g)).2
end
theorem Hb:(Rows.laid_internal_strconv_uint64pow10:DataW Unit)=Lib.tabData .u64 Lib.pow10Tab:=by kernel_rfl
theorem CT:Rows.laid_unicode_utf8_first=Lib.firstData:=by kernel_rfl
theorem AW:(Rows.laid_unicode_utf8_acceptRanges:DataW Unit)=Lib.acceptData:=by kernel_rfl
theorem tX:Tryz.prog.cellsOf 5=1:=by kernel_rfl
theorem tV:Tryz.prog.cellsOf 313=2:=by kernel_rfl
theorem CJ:Tryz.prog.globalNamed "unicode/utf8.first"=some 2:=by kernel_rfl
theorem GM:Tryz.prog.globalNamed "unicode/utf8.acceptRanges"=some 3:=by kernel_rfl
theorem GN:Tryz.prog.globalNamed "internal/strconv.uint64pow10"=some 6:=by kernel_rfl
theorem DX:(Tryz.prog.globals[2]?).map (·.type)=some 311:=by kernel_rfl
theorem IQ:(Tryz.prog.globals[3]?).map (·.type)=some 314:=by kernel_rfl
theorem IT:(Tryz.prog.globals[6]?).map (·.type)=some 331:=by kernel_rfl
theorem EW {W:World} {b:List (String×DataW Unit)} (h:laidMet Tryz.prog b W) (F:("internal/strconv.uint64pow10",Rows.laid_internal_strconv_uint64pow10)∈b) (G:("unicode/utf8.acceptRanges",Rows.laid_unicode_utf8_acceptRanges)∈b) (I:("unicode/utf8.first",Rows.laid_unicode_utf8_first)∈b) (u:W.ShapedOpen Tryz.prog):iR W:=by
 have B:Lib.VarReads Tryz.prog W "internal/strconv.uint64pow10" Rows.laid_internal_strconv_uint64pow10:=Lib.laidMet.reads h F;have C:Lib.VarReads Tryz.prog W "unicode/utf8.acceptRanges" Rows.laid_unicode_utf8_acceptRanges:=Lib.laidMet.reads h G;have D:Lib.VarReads Tryz.prog W "unicode/utf8.first" Rows.laid_unicode_utf8_first:=Lib.laidMet.reads h I
 rw [Hb] at B;rw [AW] at C;rw [CT] at D;refine ⟨Bh u,?_,?_,?_⟩
 ·obtain ⟨g,t,v,m,p,n,e,a,o⟩:=B;obtain rfl:=Option.some.inj (GN.symm.trans n);obtain rfl:=Option.some.inj (IT.symm.trans e);unfold tw Lib.TabIs;rw [a,←Lib.cells_of_tab Tryz.underlying331 Tryz.underlying248 (by kernel_rfl) (by kernel_rfl) o]
 ·intro c E;obtain ⟨g,t,v,m,p,n,e,a,o⟩:=D;obtain rfl:=Option.some.inj (CJ.symm.trans n);obtain rfl:=Option.some.inj (DX.symm.trans e);have k:=Lib.cells_of_tab Tryz.underlying311 Tryz.underlying5 tX (by kernel_rfl) o;have:=World.var?_cell n a c;rw [this,←Array.getElem?_toList,k];simp [Lib.firstTab,E]
 ·intro i A;obtain ⟨g,t,v,m,p,n,e,a,o⟩:=C;obtain rfl:=Option.some.inj (GM.symm.trans n);obtain rfl:=Option.some.inj (IQ.symm.trans e);obtain ⟨s,d,q,r,z⟩:=Lib.array_elem Tryz.underlying314 o i A;simp only [List.getElem?_map,List.getElem?_range A,Option.map_some,Option.some.injEq] at r;subst r;rw [tV] at z
  have k:=Lib.ints_of_struct Tryz.underlying313 (fun j f l=>by
   match j,l with
   | 0,l=>simp at l;subst l;exact ⟨Tryz.underlying5,rfl,tX⟩
   | 1,l=>simp at l;subst l;exact ⟨Tryz.underlying5,rfl,tX⟩
   | j+2,l=>simp at l) (by rw [tV];rfl) z
  have x:=congrArg (·[0]?) k;have y:=congrArg (·[1]?) k;simp only [List.getElem?_take,List.getElem?_drop] at x y
  constructor
  ·rw [World.var?_cell n a (2 * i),←Array.getElem?_toList];simpa [Nat.mul_comm] using x
  ·rw [World.var?_cell n a (2 * i+1),←Array.getElem?_toList];simpa [Nat.mul_comm] using y
section
variable {E own:Nat→Prop} {pp gb:Nat} {c:bX} {w:World} {vS vM:Value} {sl:List (ca×Value)} {ml:List (aX×Value)} {g:GS}
theorem gX.tickB (h:gX E own pp gb c w vS vM sl ml g) (A:g.tk=none) (T:Nat) (s:g.S.time≤T∧T≤1000000000) {n:World} (u:Below (w.setCell ⟨gb,12,none⟩ (.int .i64 (T:Int))).heap.size (w.setCell ⟨gb,12,none⟩ (.int .i64 (T:Int))) n):
  Calls Tryz.prog 23 #[.pointer (some ⟨pp,0,none⟩),.int .i64 (T:Int)] n fun e j=>e= .returned (.int .i64 0)∧∃a,gX E a pp gb c j vS vM sl ml (yj c g T)∧(∀k,a k→own k∨w.heap.size≤k)∧aH (fun k=>k=pp∨own k∨fX gb vS vM k) w j:=by
 have d:aH (fun k=>k=gb) w (w.setCell ⟨gb,12,none⟩ (.int .i64 (T:Int))):=aH.same ((aL.refl _ _).setCell _);have f:fX gb vS vM gb:= .inl rfl;obtain ⟨C,F,G,H,I,J,L,K⟩:=h.blk;have o:=heap_setCell_same w gb 12 _ _ (.int .i64 (T:Int)) F;have o:=ae u o;have d:aH (fun k=>k=gb) w n:=d.trans (aH.below u:aH (fun _=>False) _ n) (fun _ _ e=>e.elim);have z:=h.post.chg d (fun k e x=>(h.off gb f).2.1 (by rw [←x];exact e)) (fun k e x=>(h.off gb f).2.2 (by rw [←x];exact e));rw [A] at z;refine (z.tick T s).mono ?_;rintro e j ⟨rfl,a,r,B,i⟩;have b:∀k,fX gb vS vM k→¬(k=pp∨own k):=fun k e x=>x.elim (fun x=>(h.off k e).2.1 (by rw [x];exact h.post.epp)) (h.off k e).2.2;have y:∀k,a k→own k∨w.heap.size≤k:=fun k e=>(B k e).imp id (Nat.le_trans d.size);have l:∀k,fX gb vS vM k→k < j.heap.size∧¬E k∧¬a k:=fun k e=>⟨Nat.lt_of_lt_of_le (h.off k e).1 (Nat.le_trans d.size i.size),(h.off k e).2.1,fun x=>(y k x).elim (h.off k e).2.2 (fun x=>by have:=(h.off k e).1;omega)⟩;have D:∀{m:List (List UInt8)} {v:Value},iE E own gb vS vM w m v→iE E a gb vS vM j m v:=fun t=>((t.chg (own':=own) (vS':=vS) (vM':=vM) d (fun k e x=>(t.off k e).2.2.2 (.inl x)) (fun k e=> .inl e) (fun k e=> .inl e)).chg i (fun k e x=>x.elim (fun x=>(t.off k e).2.1 (by rw [x];exact h.post.epp)) (t.off k e).2.2.1) B (fun k e=> .inl e));have p:(yj c g T).S.time=T:=(h.post.laters.1 T s).2
 have r:iC E a pp c j (yj c g T).S (yj c g T).recs (yj c g T).l (yj c g T).tk (yj c g T).d:=by
  have e:(yj c g T).tk=none:=A;rw [e];exact r
 refine ⟨rfl,a,⟨r,⟨_,i.some_ o (b _ f),by simpa using G,by rw [Array.getElem?_setIfInBounds_ne (by decide)];exact H,by rw [Array.getElem?_setIfInBounds_ne (by decide)];exact I,by rw [Array.getElem?_setIfInBounds_ne (by decide)];exact J,by rw [Array.getElem?_setIfInBounds_self_of_lt (by omega),p],by rw [Array.getElem?_setIfInBounds_ne (by decide)];exact K⟩,bC (bC h.srow d (fun k e=>((h.tag).1 k e).1)) i (fun k e=>b k (.inr (.inl e))),bC (bC h.mrow d (fun k e=>(h.tag).2 k e)) i (fun k e=>b k (.inr (.inr e))),h.seq,h.meq,fun x q=>D (h.stos x q),fun x q=>D (h.mtos x q),l⟩,y,(d.mono (fun k _ e=>by rw [e];exact .inr (.inr f))).trans i (fun k _ e=>e.imp id .inl)⟩
theorem gX.tickA (h:gX E own pp gb c w vS vM sl ml g) (n:g.tk=none) (T:Nat) (l:g.S.time≤T∧T≤1000000000) {b:World} (m:Below (w.setCell ⟨gb,12,none⟩ (.int .i64 (T:Int))).heap.size (w.setCell ⟨gb,12,none⟩ (.int .i64 (T:Int))) b):
  Calls Tryz.prog 23 #[.pointer (some ⟨pp,0,none⟩),.int .i64 (T:Int)] b fun e d=>e= .returned (.int .i64 0)∧cX E own pp gb c w vS vM (yj c g T) d:=by
 refine (h.tickB n T l m).mono ?_;rintro e d ⟨rfl,a,f,i,j⟩;exact ⟨rfl,a,vS,vM,sl,ml,f,fun k e=>e.elim (fun e=>(i k e).imp id .inr) (fun e=> .inr (.inl e)),j⟩
end
end Go.Proofs.YtofpegbpgkkgkaaGreatDoor
