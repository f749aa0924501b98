import Derived.Test.YtofpegbpgkkgkaaGreatDoorS41
namespace Go.Proofs.YtofpegbpgkkgkaaGreatDoor
set_option maxHeartbeats 8000000
set_option maxRecDepth 1000000
open Go.RowKit
section
variable {E own:Nat→Prop} {pp gb:Nat} {c:bT} {w w' W:World} {vS vM:Value} {sl:List (bV×Value)} {ml:List (aR×Value)} {g g':GS}
theorem gL.callT (h:gL E own pp gb c w vS vM sl ml g) {n:aa} {j:List UInt8} {A:List (Option bA)} {p:Option aP} {z:Nat→Int×Int} (P:lE E own pp c w n j A p z w') (s:Below w'.heap.size w' W):w'.cell? ⟨gb,12,none⟩=some (.int .i64 g.S.time)∧w'.frozen? ⟨gb,12,none⟩=false∧cY E own pp gb c w vS vM {g with S:=n,recs:=j,l:=A,tk:=p,d:=z} (W.setCell ⟨gb,12,none⟩ (.int .i64 n.time)):=by
 obtain ⟨b,Q,y,o⟩:=P;have i:∀k,fM gb vS vM k→¬(k=pp∨own k):=fun k e x=>x.elim (fun x=>(h.off k e).2.1 (by rw [x];exact h.post.epp)) (h.off k e).2.2;have q:∀{m:List (List UInt8)} {v:Value},ib E own gb vS vM w m v→ib E b gb vS vM w' m v:=fun t=>t.chg o (fun k e x=>x.elim (fun x=>(t.off k e).2.1 (by rw [x];exact h.post.epp)) (t.off k e).2.2.1) y (fun k e=> .inl e);obtain ⟨C,F,G,H,I,J,K,L⟩:=h.blk;have r:=o.some_ F (i _ (.inl rfl));have D:=ae s r;have O:aF (fun k=>k=gb) W (W.setCell ⟨gb,12,none⟩ (.int .i64 n.time)):=aF.same ((aH.refl _ _).setCell _);have N:aF (fun _=>False) w' W:=aF.below s;have f:aF (fun k=>k=gb) w' (W.setCell ⟨gb,12,none⟩ (.int .i64 n.time)):=(aF.below s).trans O (fun _ _ e=>e);have M:=heap_setCell_same W gb 12 _ _ (.int .i64 n.time) D;have a:∀k,fM gb vS vM k→k < w'.heap.size∧¬E k∧¬b k:=fun k e=>⟨Nat.lt_of_lt_of_le (h.off k e).1 o.size,(h.off k e).2.1,fun x=>(y k x).elim (h.off k e).2.2 (fun x=>by have:=(h.off k e).1;omega)⟩;have B:∀{m:List (List UInt8)} {v:Value},ib E own gb vS vM w m v→ib E b gb vS vM (W.setCell ⟨gb,12,none⟩ (.int .i64 n.time)) m v:=fun t=>(q t).chg f (fun k e x=>(t.off k e).2.2.2 (.inl x)) (fun k e=> .inl e) (fun k e=> .inl e);refine ⟨by rw [Lib.cell_of_heap r];exact K,Lib.frozen_of_heap r 12,b,vS,vM,sl,ml,⟨Q.chg f (fun k e x=>(a gb (.inl rfl)).2.1 (by rw [←x];exact e)) (fun k e x=>(a gb (.inl rfl)).2.2 (by rw [←x];exact e)),⟨_,M,by simpa using G,by rw [Array.getElem?_setIfInBounds_ne (by decide)];exact H,by rw [Array.getElem?_setIfInBounds_ne (by decide)];exact I,by rw [Array.getElem?_setIfInBounds_ne (by decide)];exact J,by rw [Array.getElem?_setIfInBounds_self_of_lt (by omega)],by rw [Array.getElem?_setIfInBounds_ne (by decide)];exact L⟩,br (br h.srow o (fun k e=>i k (.inr (.inl e)))) f (fun k e=>((h.tag).1 k e).1),br (br h.mrow o (fun k e=>i k (.inr (.inr e)))) f (fun k e=>(h.tag).2 k e),h.seq,h.meq,fun x u=>B (h.stos x u),fun x u=>B (h.mtos x u),fun k e=>⟨Nat.lt_of_lt_of_le (a k e).1 f.size,(a k e).2⟩⟩,fun k e=>e.elim (fun e=>(y k e).imp id .inr) (fun e=> .inr (.inl e)),(o.mono (fun k _ e=>e.imp id .inl)).trans f (fun k _ e=> .inr (.inr (.inl e)))⟩
theorem BL (J:eQ c) (h:gL E own pp gb c w vS vM sl ml g) (hi:iq g) (o D f:Int) (h1: -9223372036854775808≤o∧o≤9223372036854775807) (h2: -9223372036854775808≤D∧D≤9223372036854775807) (h3: -9223372036854775808≤f∧f≤9223372036854775807) (hk:cx o 12=7):
  Calls Tryz.prog 9 #[.pointer (some ⟨gb,0,none⟩),.agg #[.int .i64 o,.int .i64 D,.int .i64 f]] w (jd E own pp gb c w vS vM g):=by
 obtain ⟨i,u⟩:∃W:World,w.alloc (.cells #[.int .i64 o,.int .i64 D,.int .i64 f] 34)=W:=⟨_,rfl⟩;have F:i.heap[w.heap.size]? =some (.cells #[.int .i64 o,.int .i64 D,.int .i64 f] 34 (0,0)):=by rw [←u];exact heap_alloc_new w _
 have Z:Below w.heap.size w i:=by rw [←u];exact (Below.refl _ _).alloc (Nat.le_refl _) _
 have v:¬(w.heap.size=pp∨own w.heap.size∨fM gb vS vM w.heap.size):=fun e=>by
  rcases e with e | e | e
  ·have:=h.post.elt h.post.epp;omega
  ·have:=h.post.lt e;omega
  ·have:=(h.off _ e).1;omega
 have U:=h.below Z;have C:sl.length≤100:=by rw [h.slen,hi.len];exact h.post.len
 obtain ⟨K,eK⟩:∃K,cx o 12=K:=⟨_,rfl⟩;have bK:=cO o (n:=12) (by decide);rw [eK] at bK hk;have z:Hid (∀W:World,Calls Tryz.prog 20 #[.int .i64 o,.int .i64 12] W fun e w'=>e= .returned (.int .i64 K)∧W=w'):=Lib.hid (fun W=>by have:=bZ o 12 W h1.1 h1.2 (by decide) (by decide);rw [eK] at this;exact this)
 have PV:∀(m:Int),0 < m→m≤1000→∃a:Nat,(a:Int) < m∧∀W:World,Calls Tryz.prog 20 #[.int .i64 f,.int .i64 m] W fun e w'=>e= .returned (.int .i64 (a:Int))∧W=w':=fun m hm b3=>by
  have hb:=cO f hm;refine ⟨(cx f m).toNat,by omega,fun W=>?_⟩
  have:=bZ f m W h3.1 h3.2 hm (by omega);rw [show ((cx f m).toNat:Int)=cx f m by omega]
  exact this
 have a9:=Lib.hid (gY U D h2.1 h2.2 C);have q:=Lib.hid U;have y:=Lib.hid hi;have x:=Lib.hid Z;have b1:=Lib.hid F;have A:=Lib.hid u;have a0:=Lib.hid v;have a1:=Lib.hid J;have z0:w.heap.size < i.heap.size:=ah F;have o0:i.cell? ⟨w.heap.size,0,none⟩=some (.int .i64 o):=by rw [Lib.cell_of_heap F];rfl
 have o1:i.cell? ⟨w.heap.size,1,none⟩=some (.int .i64 D):=by rw [Lib.cell_of_heap F];rfl
 have X:i.cell? ⟨w.heap.size,2,none⟩=some (.int .i64 f):=by rw [Lib.cell_of_heap F];rfl
 have a4:=Lib.hid X;have I:i.cell? ⟨gb,0,none⟩=some (.pointer (some ⟨pp,0,none⟩)):=U.cells.1;have b0:=Lib.hid C;have a5:=Lib.hid PV;clear h hi J h1 h2 h3 F Z u U v eK C PV;subst hk;obtain ⟨a,ha,P⟩:=a5.out 30 (by decide) (by decide);have r:=Lib.hid P;have b:=Lib.hid (q.out.below ((Below.refl _ i).drew));have s:=q.out.cells.2.2.2.1;have k:=q.out.post.sok.time;obtain ⟨N,p⟩:∃N,g.S.time=N:=⟨_,rfl⟩;have k:N≤1000000000:=by rw [←p];exact k
 rw [p] at s;obtain ⟨T,V⟩:∃T,N+a=T:=⟨_,rfl⟩;have hw:IntKind.i64.wrap ((N:Int)+(a:Int))=(T:Int):=by rw [IntKind.wrap_i64];omega
 have HN:=Lib.hid p;have HT:=Lib.hid V;clear P bK
 by_cases h9:T≤1000000000
 ·cases j:g.tk with
  | some t=>
   have B:=b.out.post;rw [j] at B;have G:=Lib.hid (B.tickBusy (T:Int) (by rw [p];omega));clear B j p V;go_enter Tryz.func9,Tryz.ntmps9;go_wp2_with fail
   rw [A.out];refine (z.out _).mono ?_;rintro e w1 ⟨rfl,rfl⟩;go_wp2_with fail
   go_region_held3 (fun w'=>w'.cell? ⟨gb,0,none⟩=some (.pointer (some ⟨pp,0,none⟩))∧w'.cell? ⟨w.heap.size,2,none⟩=some (.int .i64 f)∧w'.cell? ⟨gb,12,none⟩=some (.int .i64 N))
    (exact ⟨I,X,s⟩)
    (first
     | (go_at_call 20;refine (r.out _).mono ?_;rintro e wx ⟨rfl,rfl⟩)
     | (go_at_call 23;refine G.out.mono ?_;rintro e Y ⟨rfl,rfl⟩))
   all_goals
    go_wp2_with fail
    refine bodyPost_end (results_none rfl _ _ _) rfl ?_;exact ⟨rfl,0,g,by omega,.nil g,y.out,cY.from x.out (cY.from ((Below.refl _ i).drew) (cY.refl b.out))⟩
  | none=>
   have B:=b.out.post;rw [j] at B;have Q:iA c g (wo c g T):= .tick g T ⟨by rw [p];omega,h9⟩ j
   have H:=Lib.hid Q;have R:=(b.out.post.laters.1 T ⟨by rw [p];omega,h9⟩).2
   have G:Hid (Calls Tryz.prog 23 #[.pointer (some ⟨pp,0,none⟩),.int .i64 (T:Int)] i.drew fun e w'=>e= .returned (.int .i64 0)∧w'.cell? ⟨gb,0,none⟩=some (.pointer (some ⟨pp,0,none⟩))∧w'.cell? ⟨gb,12,none⟩=some (.int .i64 N)∧w'.frozen? ⟨gb,12,none⟩=false∧w'.cell? ⟨w.heap.size,2,none⟩=some (.int .i64 f)∧cY E own pp gb c i.drew vS vM (wo c g T) (w'.drew.setCell ⟨gb,12,none⟩ (.int .i64 T))):=Lib.hid (by
    refine (B.tick T ⟨by rw [p];omega,h9⟩).mono ?_;rintro e Y ⟨rfl,O⟩;obtain ⟨k1,k2,k3⟩:=b.out.callT O ((Below.refl _ Y).drew);obtain ⟨a8,_,_,a3⟩:=O;have a6:¬(w.heap.size=pp∨own w.heap.size):=fun e=>a0.out (e.imp id .inl);have M:¬(gb=pp∨own gb):=fun e=>e.elim (fun e=>(b.out.off gb (.inl rfl)).2.1 (by rw [e];exact b.out.post.epp)) (b.out.off gb (.inl rfl)).2.2;rw [HN.out] at k1;rw [R] at k3
    have e:({g with S:=(dt c.life (⟨g.S.items,T⟩,g.recs) g.S.live).1,recs:=(dt c.life (⟨g.S.items,T⟩,g.recs) g.S.live).2,l:=g.l,tk:=none,d:=qU g.S (dt c.life (⟨g.S.items,T⟩,g.recs) g.S.live).1 g.d}:GS)=wo c g T:=by
     unfold wo;rw [←j]
    rw [e] at k3
    exact ⟨rfl,(World.cell?_of_block (a3.block gb (aA I) M)).trans I,k1,k2,(World.cell?_of_block (a3.block w.heap.size z0 a6)).trans a4.out,k3⟩)
   clear B j Q R p V;go_enter Tryz.func9,Tryz.ntmps9;go_wp2_with fail
   rw [A.out];refine (z.out _).mono ?_;rintro e w1 ⟨rfl,rfl⟩;go_wp2_with fail
   go_region_held3 (fun w'=>w'.cell? ⟨gb,0,none⟩=some (.pointer (some ⟨pp,0,none⟩))∧w'.cell? ⟨w.heap.size,2,none⟩=some (.int .i64 f)∧w'.cell? ⟨gb,12,none⟩=some (.int .i64 N))
    (first | exact S2 | exact ⟨I,X,s⟩)
    (first
     | (go_at_call 20;refine (r.out _).mono ?_;rintro e wx ⟨rfl,rfl⟩)
     | (go_at_call 23;refine G.out.mono ?_;rintro e Y ⟨rfl,q0,a7,b2,q2,L⟩;have S2:=And.intro q0 (And.intro q2 a7);have a2:=Lib.hid L;clear L))
   go_wp2_with fail
   go_region_law (first
    | (go_simp;go_at_call 20;refine (r.out _).mono ?_;rintro e wx ⟨rfl,rfl⟩;dsimp only))
   all_goals
    go_wp2_with fail
    refine bodyPost_end (results_none rfl _ _ _) rfl ?_;exact ⟨rfl,1,wo c g T,by omega,fK.one H.out,q.out.step a1.out y.out H.out,cY.from x.out (cY.from ((Below.refl _ i).drew) a2.out)⟩
 ·have G:=Lib.hid (b.out.post.tickNo (T:Int) (by omega));clear p V;go_enter Tryz.func9,Tryz.ntmps9;go_wp2_with fail
  rw [A.out];refine (z.out _).mono ?_;rintro e w1 ⟨rfl,rfl⟩;go_wp2_with fail
  go_region_held3 (fun w'=>w'.cell? ⟨gb,0,none⟩=some (.pointer (some ⟨pp,0,none⟩))∧w'.cell? ⟨w.heap.size,2,none⟩=some (.int .i64 f)∧w'.cell? ⟨gb,12,none⟩=some (.int .i64 N))
   (exact ⟨I,X,s⟩)
   (first
    | (go_at_call 20;refine (r.out _).mono ?_;rintro e wx ⟨rfl,rfl⟩)
    | (go_at_call 23;refine G.out.mono ?_;rintro e Y ⟨rfl,rfl⟩))
  all_goals
   go_wp2_with fail
   refine bodyPost_end (results_none rfl _ _ _) rfl ?_;exact ⟨rfl,0,g,by omega,.nil g,y.out,cY.from x.out (cY.from ((Below.refl _ i).drew) (cY.refl b.out))⟩
end
section
variable {E own:Nat→Prop} {pp gb:Nat} {c:bT} {w:World} {vS vM:Value} {sl:List (bV×Value)} {ml:List (aR×Value)} {g g':GS}
theorem Fp (h:gL E own pp gb c w vS vM sl ml g):
  Calls Tryz.prog 21 #[.pointer (some ⟨pp,0,none⟩)] w fun e q=>∃p,e= .returned (.int .i64 p)∧∃k g',k≤1∧fK c k g g'∧(iq g→eQ c→iq g')∧g'.tk=none∧cY E own pp gb c w vS vM g' q:=by
 have d:=h.post
 cases b:g.tk with
 | none=>
  rw [b] at d;refine d.hangIdle.mono ?_;rintro e r ⟨rfl,rfl⟩;exact ⟨_,rfl,0,g,by omega,.nil g,fun i _=>i,b,cY.refl h⟩
 | some t=>
  rw [b] at d;refine d.hang.mono ?_;rintro e r ⟨rfl,j⟩;obtain ⟨l,m,n,o⟩:=h.call j (h.post.laters.2 t b).2;have a:iA c g (zQ c g t):= .over g t b;exact ⟨_,rfl,1,zQ c g t,by omega,fK.one a,fun i f=>h.step f i a,rfl,cY.called n o (cY.refl m)⟩
theorem BJ (R:eQ c) (h:gL E own pp gb c w vS vM sl ml g) (hi:iq g) (o J f:Int) (h1: -9223372036854775808≤o∧o≤9223372036854775807) (h2: -9223372036854775808≤J∧J≤9223372036854775807) (h3: -9223372036854775808≤f∧f≤9223372036854775807) (hk:cx o 12=11):
  Calls Tryz.prog 9 #[.pointer (some ⟨gb,0,none⟩),.agg #[.int .i64 o,.int .i64 J,.int .i64 f]] w (jd E own pp gb c w vS vM g):=by
 obtain ⟨H,q⟩:∃W:World,w.alloc (.cells #[.int .i64 o,.int .i64 J,.int .i64 f] 34)=W:=⟨_,rfl⟩;have L:H.heap[w.heap.size]? =some (.cells #[.int .i64 o,.int .i64 J,.int .i64 f] 34 (0,0)):=by rw [←q];exact heap_alloc_new w _
 have B0:Below w.heap.size w H:=by rw [←q];exact (Below.refl _ _).alloc (Nat.le_refl _) _
 have x:¬(w.heap.size=pp∨own w.heap.size∨fM gb vS vM w.heap.size):=fun e=>by
  rcases e with e | e | e
  ·have:=h.post.elt h.post.epp;omega
  ·have:=h.post.lt e;omega
  ·have:=(h.off _ e).1;omega
 have Y:=h.below B0;have I:sl.length≤100:=by rw [h.slen,hi.len];exact h.post.len
 obtain ⟨K,eK⟩:∃K,cx o 12=K:=⟨_,rfl⟩;have bK:=cO o (n:=12) (by decide);rw [eK] at bK hk;have b0:Hid (∀W:World,Calls Tryz.prog 20 #[.int .i64 o,.int .i64 12] W fun e w'=>e= .returned (.int .i64 K)∧W=w'):=Lib.hid (fun W=>by have:=bZ o 12 W h1.1 h1.2 (by decide) (by decide);rw [eK] at this;exact this)
 have PV:∀(m:Int),0 < m→m≤1000→∃a:Nat,(a:Int) < m∧∀W:World,Calls Tryz.prog 20 #[.int .i64 f,.int .i64 m] W fun e w'=>e= .returned (.int .i64 (a:Int))∧W=w':=fun m hm c6=>by
  have hb:=cO f hm;refine ⟨(cx f m).toNat,by omega,fun W=>?_⟩
  have:=bZ f m W h3.1 h3.2 hm (by omega);rw [show ((cx f m).toNat:Int)=cx f m by omega]
  exact this
 have a8:=Lib.hid (gY Y J h2.1 h2.2 I);have C:=Lib.hid Y;have p:=Lib.hid hi;have z:=Lib.hid B0;have c4:=Lib.hid L;have b4:=Lib.hid q;have c2:=Lib.hid x;have B:=Lib.hid R;have z0:w.heap.size < H.heap.size:=ah L;have o0:H.cell? ⟨w.heap.size,0,none⟩=some (.int .i64 o):=by rw [Lib.cell_of_heap L];rfl
 have o1:H.cell? ⟨w.heap.size,1,none⟩=some (.int .i64 J):=by rw [Lib.cell_of_heap L];rfl
 have o2:H.cell? ⟨w.heap.size,2,none⟩=some (.int .i64 f):=by rw [Lib.cell_of_heap L];rfl
 have a7:=Lib.hid o2;have c0:H.cell? ⟨gb,0,none⟩=some (.pointer (some ⟨pp,0,none⟩)):=Y.cells.1;have c3:=Lib.hid I;have b3:=Lib.hid PV;clear h hi R h1 h2 h3 L B0 q Y x eK I PV;subst hk;obtain ⟨a,ha,V⟩:=b3.out 2 (by decide) (by decide);have a9:=Lib.hid V;clear V bK;go_enter Tryz.func9,Tryz.ntmps9;go_wp2_with fail
 rw [b4.out];refine (b0.out _).mono ?_;rintro e w1 ⟨rfl,rfl⟩;go_wp2_with fail
 refine a8.out.mono ?_;rintro e w2 ⟨r,rfl,hr,t⟩;have p2:w2.cell? ⟨w.heap.size,2,none⟩=some (.int .i64 f):=(t.cell z0).trans a7.out;have HR:=Lib.hid hr;have A:=Lib.hid t;have Z:=C.out.below t;have d0:=Z.cells.1;have M:=Lib.hid Z;have HH:=Lib.hid (Fp Z);clear hr t Z;go_wp2_with fail
 refine (a9.out _).mono ?_;rintro e w3 ⟨rfl,rfl⟩
 by_cases b5:a=0
 ·subst b5;go_wp2_with fail
  refine HH.out.mono ?_;rintro e w3 ⟨er,rfl,k,g2,b7,d,j,_,l⟩;have F:=Lib.hid d;have D:=Lib.hid j;have G:=Lib.hid l;clear d j l;go_wp2_with fail
  refine bodyPost_ret (v:= .tuple #[]) (by simp [results,Tryz.results9,go_sem]) rfl ?_;exact ⟨rfl,k,g2,by omega,F.out,D.out p.out B.out,cY.from z.out (cY.from A.out G.out)⟩
 ·have b6:a=1:=by omega
  subst b6
  rcases HR.out with rfl | ⟨n,rfl,hn,T⟩
  ·go_wp2_with fail
   refine HH.out.mono ?_;rintro e w3 ⟨er,rfl,k,g2,b7,d,j,_,l⟩;have F:=Lib.hid d;have D:=Lib.hid j;have G:=Lib.hid l;clear d j l;go_wp2_with fail
   refine bodyPost_ret (v:= .tuple #[]) (by simp [results,Tryz.results9,go_sem]) rfl ?_;exact ⟨rfl,k,g2,by omega,F.out,D.out p.out B.out,cY.from z.out (cY.from A.out G.out)⟩
  ·have hx:g.seats[n]? =some sl[n].1:=by rw [←C.out.seq,List.getElem?_map,List.getElem?_eq_getElem hn];rfl
   obtain ⟨s,hs⟩:=pW p.out hx T;have HC:=Lib.hid (M.out.post.close n hs);have HS:=Lib.hid hs;have HX:=Lib.hid hx;have c7:¬(n:Int) < 0:=by omega
   clear hs hx T;go_wp2_with fail
   refine HC.out.mono ?_;rintro e w3 ⟨rfl,U⟩;obtain ⟨c1,O,a2,a3⟩:=M.out.call U rfl;have P:=O.cells.2.1;obtain ⟨sb,c5,ev,X,S⟩:=O.seat hn;rw [ev] at P;have d3:w3.cell? ⟨sb,n * 5+3,none⟩=some (.bool sl[n].1.closed):=X 3 (by decide);have f3:=S (n * 5+3);have b8:(n:Int) < (sl.length:Int):=by omega
   obtain ⟨N,eN⟩:∃N,sl.length=N:=⟨_,rfl⟩;rw [eN] at P b8;obtain ⟨cl,Q⟩:∃b,sl[n].1.closed=b:=⟨_,rfl⟩;rw [Q] at d3;obtain ⟨b1,b2⟩:=O.putS (n:=n) (i:=3) (u:= .bool true) (y:=({sl[n].1 with closed:=true},sl[n].2)) hn (by decide) ev rfl (O.stos sl[n] (List.getElem_mem hn));have a5:=Lib.hid b1;have a6:=Lib.hid b2;have a0:=Lib.hid a2;have a4:=Lib.hid a3;clear O a2 a3 b1 b2 X S ev eN Q U HC HH;go_wp2_with fail
   refine bodyPost_end (results_none rfl _ _ _) rfl ?_;have d:iA c g (AQ g n sl[n].1):= .close g n s sl[n].1 HS.out HX.out;exact ⟨rfl,1,AQ g n sl[n].1,by omega,fK.one d,C.out.step B.out p.out d,cY.from z.out (cY.from A.out (cY.called a0.out a4.out (cY.turned a6.out (fun k e=> .inl e) (cY.refl a5.out))))⟩
end
def CZ:List UInt8:=[72,69,76,79,32,120]
def C4:List UInt8:=[77,65,73,76,32,70,82,79,77,58,60,62]
def C8:List UInt8:=[82,67,80,84,32,84,79,58,60,98,64,97,46,111,114,103,62]
def Da:List UInt8:=[68,65,84,65]
def Ig:List UInt8:=[72,69,76,79,32,120,13,10,77,65,73,76,32,70,82,79,77,58,60,62,13,10,82,67,80,84,32,84,79,58,60,98,64,97,46,111,114,103,62,13,10,68,65,84,65,13,10,46,13,10]
def CH:List UInt8:=[50,53,48,32,109,120,46,111,114,103,13,10,50,53,48,32,111,107,13,10,50,53,48,32,111,107,13,10,51,53,52,32,103,111,13,10,50,53,48,32,107,101,112,116,32,49,13,10]
def ql:List UInt8:=[98,64,97,46,111,114,103]
def si:aR:=⟨1,0,[],[ql],[]⟩
def AF:aa:=aa.plus ⟨[],0⟩ si
def GR:List UInt8:=fi (dd si)
section
variable {a b d:Int} {c:bT}
def dk (c:bT):bA:={gx c 1 with greeted:=true}
theorem EZ (D:0≤a) (E:0≤b):cH (dm a b d) (gx (dm a b d) 1,⟨[],0⟩,[],[]) Ig=(dk (dm a b d),AF,GR,CH):=by
 obtain ⟨c,f⟩:∃c,dm a b d=c:=⟨_,rfl⟩;have g:c.most=1+a:=by rw [←f];rfl
 have h:c.size=1+b:=by rw [←f];rfl
 have m:dY c ql=true:=by rw [←f];kernel_rfl
 have o:oX c [] si=true:=by rw [←f];kernel_rfl
 have n:cL c=[109,120,46,111,114,103]:=by rw [←f];rfl
 rw [f];clear f;have p:bn CZ false=⟨6,[],0,[]⟩:=by kernel_rfl
 have q:bn C4 false=⟨9,[],0,[]⟩:=by kernel_rfl
 have r:bn C8 false=⟨10,ql,0,[]⟩:=by kernel_rfl
 have s:bn Da false=⟨5,[],0,[]⟩:=by kernel_rfl
 have t:EI CZ=true:=by kernel_rfl
 have u:EI C4=true:=by kernel_rfl
 have v:EI C8=true:=by kernel_rfl
 have w:EI Da=true:=by kernel_rfl
 have x:EI [46]=true:=by kernel_rfl
 have i:Ig=CZ++[13,10]++(C4++[13,10]++(C8++[13,10]++(Da++[13,10]++([46]++[13,10])))):=rfl
 have y:aO c (gx c 1) ⟨[],0⟩ [] CZ false=(dk c,⟨[],0⟩,[],[[50,53,48,32]++cL c++[13,10]]):=by
  show ((bt c (gx c 1) (bn CZ false)).1,_,_,(bt c (gx c 1) (bn CZ false)).2)=_;rw [p];rfl
 have z:aO c (dk c) ⟨[],0⟩ [] C4 false=({dk c with tx:=some ⟨[],[],none⟩},⟨[],0⟩,[],[jJ]):=by
  show ((bt c (dk c) (bn C4 false)).1,_,_,(bt c (dk c) (bn C4 false)).2)=_;rw [q];have e:bt c (dk c) ⟨9,[],0,[]⟩=if c.size < ((0:Nat):Int) then (dk c,[uG]) else ({dk c with tx:=some ⟨[],[],none⟩},[jJ]):=rfl;rw [e,if_neg (by rw [h];omega)]
 have A:aO c {dk c with tx:=some ⟨[],[],none⟩} ⟨[],0⟩ [] C8 false=({dk c with tx:=some ⟨[],[ql],none⟩},⟨[],0⟩,[],[jJ]):=by
  show ((bt c {dk c with tx:=some ⟨[],[],none⟩} (bn C8 false)).1,_,_,(bt c {dk c with tx:=some ⟨[],[],none⟩} (bn C8 false)).2)=_;rw [r];have e:bt c {dk c with tx:=some ⟨[],[],none⟩} ⟨10,ql,0,[]⟩=({dk c with tx:=some ⟨[],dj [] c.most ((dk c).nets || (dk c).known || dY c ql) ql,none⟩},[cz [] c.most ((dk c).nets || (dk c).known || dY c ql) ql]):=rfl;have j:((dk c).nets || (dk c).known || dY c ql)=true:=by rw [m,Bool.or_true]
  have k:dj [] c.most true ql=[ql]:=by
   unfold dj;rw [if_neg (by decide),if_neg (by rw [g];show ¬((0:Nat):Int)=1+a;omega),if_pos rfl];rfl
  have l:cz [] c.most true ql=jJ:=by
   unfold cz;rw [if_neg (by decide),if_neg (by rw [g];show ¬((0:Nat):Int)=1+a;omega),if_pos rfl];rfl
  rw [e,j,k,l]
 have B:aO c {dk c with tx:=some ⟨[],[ql],none⟩} ⟨[],0⟩ [] Da false=({dk c with tx:=some ⟨[],[ql],some ⟨[],false,false⟩⟩},⟨[],0⟩,[],[zw]):=by
  show ((bt c {dk c with tx:=some ⟨[],[ql],none⟩} (bn Da false)).1,_,_,(bt c {dk c with tx:=some ⟨[],[ql],none⟩} (bn Da false)).2)=_;rw [s];rfl
 have C:aO c {dk c with tx:=some ⟨[],[ql],some ⟨[],false,false⟩⟩} ⟨[],0⟩ [] [46] false=(dk c,AF,GR,[[50,53,48,32,107,101,112,116,32]++Lib.itoa ((0:Int)+1)++[13,10]]):=by
  show lQ c {dk c with tx:=some ⟨[],[ql],some ⟨[],false,false⟩⟩} ⟨[],0⟩ [] ⟨[],[ql],some ⟨[],false,false⟩⟩ ⟨[],false,false⟩=_;unfold lQ;rw [if_neg (by decide),if_neg (by rw [h];show ¬1+b < ((0:Nat):Int);omega)];exact Eq.trans (if_pos o) rfl
 rw [i,kX c _ _ _ _ t rfl rfl,y,kX c _ _ _ _ u rfl rfl,z,kX c _ _ _ _ v rfl rfl,A,kX c _ _ _ _ w rfl rfl,B,oc c _ _ _ _ x rfl rfl,C,n,show Lib.itoa ((0:Int)+1)=[49] by kernel_rfl]
 rfl
theorem yI:ji AF.items=[si]:=by kernel_rfl
theorem yH:nZ (dm a b d)=[50,50,48,32,109,120,46,111,114,103,13,10]:=rfl
def GQ (c:bT):GS:=⟨AF,GR,[some (dk c)],none,qU ⟨[],0⟩ AF (fun _=>(0,0)),[⟨1,false,false,false,[]⟩],[⟨1,0,[],[ql],[]⟩],false⟩
theorem EY (k:eQ c):iq (GQ c):=by
 refine ⟨rfl,fun n x o e f=>?_,rfl,fun m g=>?_,fun m g=>?_,Nat.le_refl 1,fun i j=>?_⟩
 ·have e:([⟨1,false,false,false,[]⟩]:List bV)[n]? =some x:=e;have f:([some (dk c)]:List (Option bA))[n]? =some o:=f
  cases n with
  | zero=>
   injection e with e;injection f with f;subst e f;exact ⟨rfl,rfl,rfl,rfl,rfl,rfl,FR k.nets (addr:=1),(fun t h=>by cases h),by decide,by decide⟩
  | succ n=>cases e
 ·rw [List.mem_singleton.1 (show m∈[(⟨1,0,[],[ql],[]⟩:aR)] from g)];exact Nat.le_refl 1
 ·rw [List.mem_singleton.1 (show m∈[(⟨1,0,[],[ql],[]⟩:aR)] from g)];decide
 ·have j:i < 1:=j;obtain rfl:i=0:=by omega
  refine ⟨fun m g _ t h=>?_,fun l=>absurd rfl (l ⟨1,0,[],[ql],[]⟩ (List.mem_singleton.2 rfl))⟩;rw [List.mem_singleton.1 (show m∈[(⟨1,0,[],[ql],[]⟩:aR)] from g)];exact h
theorem DK (e:0≤a∧a < 10) (f:0≤b∧b < 1000) (g:0≤d∧d < 60):eQ (dm a b d):=⟨rfl,rfl,sT e f g⟩
end
end Go.Proofs.YtofpegbpgkkgkaaGreatDoor
