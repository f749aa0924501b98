import Derived.Test.YtofpegbpgkkgkaaGreatDoorS22
namespace Go.Proofs.YtofpegbpgkkgkaaGreatDoor
set_option maxHeartbeats 8000000
set_option maxRecDepth 1000000
open Go.RowKit
section
variable {E own:Nat→Prop} {pp gb:Nat} {c:bX} {w:World} {vS vM:Value} {sl:List (ca×Value)} {ml:List (aX×Value)} {g:GS}
theorem gX.mail (h:gX E own pp gb c w vS vM sl ml g) {n:Nat} (o:n < ml.length):∃d a,vM= .slice (some ⟨d,0,none⟩) ml.length a∧d < w.heap.size∧∀i,i < 5→w.cell? ⟨d,n * 5+i,none⟩=(aY ml[n].1 ml[n].2)[i]? :=by
 rcases h.mrow.2 with ⟨_,p⟩ | ⟨l,j,k,e,_,f,_,_,_,b⟩
 ·omega
 ·refine ⟨l,j,e,ah f,fun i m=>?_⟩;rw [Lib.cell_of_heap f,←Array.getElem?_toList,←List.getElem?_take_of_lt (show n * 5+i < ml.length * 5 by omega),b,lU _ _ _ o m]
end
section
variable {E own:Nat→Prop} {pp gb:Nat} {c:bX} {w w' W:World} {vS vM:Value} {sl:List (ca×Value)} {ml:List (aX×Value)} {g g':GS}
theorem gX.callT (h:gX E own pp gb c w vS vM sl ml g) {n:aa} {j:List UInt8} {A:List (Option bG)} {p:Option aQ} {z:Nat→Int×Int} (P:mr E own pp c w n j A p z w') (s:Below w'.heap.size w' W):w'.cell? ⟨gb,12,none⟩=some (.int .i64 g.S.time)∧w'.frozen? ⟨gb,12,none⟩=false∧cX E own pp gb c w vS vM {g with S:=n,recs:=j,l:=A,tk:=p,d:=z} (W.setCell ⟨gb,12,none⟩ (.int .i64 n.time)):=by
 obtain ⟨b,Q,y,o⟩:=P;have i:∀k,fX gb vS vM k→¬(k=pp∨own k):=fun k e x=>x.elim (fun x=>(h.off k e).2.1 (by rw [x];exact h.post.epp)) (h.off k e).2.2;have q:∀{m:List (List UInt8)} {v:Value},iE E own gb vS vM w m v→iE E b gb vS vM w' m v:=fun t=>t.chg o (fun k e x=>x.elim (fun x=>(t.off k e).2.1 (by rw [x];exact h.post.epp)) (t.off k e).2.2.1) y (fun k e=> .inl e);obtain ⟨C,F,G,H,I,J,K,L⟩:=h.blk;have r:=o.some_ F (i _ (.inl rfl));have D:=ae s r;have O:aH (fun k=>k=gb) W (W.setCell ⟨gb,12,none⟩ (.int .i64 n.time)):=aH.same ((aL.refl _ _).setCell _);have N:aH (fun _=>False) w' W:=aH.below s;have f:aH (fun k=>k=gb) w' (W.setCell ⟨gb,12,none⟩ (.int .i64 n.time)):=(aH.below s).trans O (fun _ _ e=>e);have M:=heap_setCell_same W gb 12 _ _ (.int .i64 n.time) D;have a:∀k,fX gb vS vM k→k < w'.heap.size∧¬E k∧¬b k:=fun k e=>⟨Nat.lt_of_lt_of_le (h.off k e).1 o.size,(h.off k e).2.1,fun x=>(y k x).elim (h.off k e).2.2 (fun x=>by have:=(h.off k e).1;omega)⟩;have B:∀{m:List (List UInt8)} {v:Value},iE E own gb vS vM w m v→iE E b gb vS vM (W.setCell ⟨gb,12,none⟩ (.int .i64 n.time)) m v:=fun t=>(q t).chg f (fun k e x=>(t.off k e).2.2.2 (.inl x)) (fun k e=> .inl e) (fun k e=> .inl e);refine ⟨by rw [Lib.cell_of_heap r];exact K,Lib.frozen_of_heap r 12,b,vS,vM,sl,ml,⟨Q.chg f (fun k e x=>(a gb (.inl rfl)).2.1 (by rw [←x];exact e)) (fun k e x=>(a gb (.inl rfl)).2.2 (by rw [←x];exact e)),⟨_,M,by simpa using G,by rw [Array.getElem?_setIfInBounds_ne (by decide)];exact H,by rw [Array.getElem?_setIfInBounds_ne (by decide)];exact I,by rw [Array.getElem?_setIfInBounds_ne (by decide)];exact J,by rw [Array.getElem?_setIfInBounds_self_of_lt (by omega)],by rw [Array.getElem?_setIfInBounds_ne (by decide)];exact L⟩,bC (bC h.srow o (fun k e=>i k (.inr (.inl e)))) f (fun k e=>((h.tag).1 k e).1),bC (bC h.mrow o (fun k e=>i k (.inr (.inr e)))) f (fun k e=>(h.tag).2 k e),h.seq,h.meq,fun x u=>B (h.stos x u),fun x u=>B (h.mtos x u),fun k e=>⟨Nat.lt_of_lt_of_le (a k e).1 f.size,(a k e).2⟩⟩,fun k e=>e.elim (fun e=>(y k e).imp id .inr) (fun e=> .inr (.inl e)),(o.mono (fun k _ e=>e.imp id .inl)).trans f (fun k _ e=> .inr (.inr (.inl e)))⟩
theorem Dj (J:dX c) (h:gX E own pp gb c w vS vM sl ml g) (hi:hJ g) (o D f:Int) (h1: -9223372036854775808≤o∧o≤9223372036854775807) (h2: -9223372036854775808≤D∧D≤9223372036854775807) (h3: -9223372036854775808≤f∧f≤9223372036854775807) (hk:cM o 12=7):
  Calls Tryz.prog 9 #[.pointer (some ⟨gb,0,none⟩),.agg #[.int .i64 o,.int .i64 D,.int .i64 f]] w (jG E own pp gb c w vS vM g):=by
 obtain ⟨i,u⟩:∃W:World,w.alloc (.cells #[.int .i64 o,.int .i64 D,.int .i64 f] 34)=W:=⟨_,rfl⟩;have F:i.heap[w.heap.size]? =some (.cells #[.int .i64 o,.int .i64 D,.int .i64 f] 34 (0,0)):=by rw [←u];exact heap_alloc_new w _
 have Z:Below w.heap.size w i:=by rw [←u];exact (Below.refl _ _).alloc (Nat.le_refl _) _
 have v:¬(w.heap.size=pp∨own w.heap.size∨fX gb vS vM w.heap.size):=fun e=>by
  rcases e with e | e | e
  ·have:=h.post.elt h.post.epp;omega
  ·have:=h.post.lt e;omega
  ·have:=(h.off _ e).1;omega
 have U:=h.below Z;have C:sl.length≤100:=by rw [h.slen,hi.len];exact h.post.len
 obtain ⟨K,eK⟩:∃K,cM o 12=K:=⟨_,rfl⟩;have bK:=dt o (n:=12) (by decide);rw [eK] at bK hk;have z:Hid (∀W:World,Calls Tryz.prog 20 #[.int .i64 o,.int .i64 12] W fun e w'=>e= .returned (.int .i64 K)∧W=w'):=Lib.hid (fun W=>by have:=bZ o 12 W h1.1 h1.2 (by decide) (by decide);rw [eK] at this;exact this)
 have PV:∀(m:Int),0 < m→m≤1000→∃a:Nat,(a:Int) < m∧∀W:World,Calls Tryz.prog 20 #[.int .i64 f,.int .i64 m] W fun e w'=>e= .returned (.int .i64 (a:Int))∧W=w':=fun m hm b3=>by
  have hb:=dt f hm;refine ⟨(cM f m).toNat,by omega,fun W=>?_⟩
  have:=bZ f m W h3.1 h3.2 hm (by omega);rw [show ((cM f m).toNat:Int)=cM f m by omega]
  exact this
 have a9:=Lib.hid (iz U D h2.1 h2.2 C);have q:=Lib.hid U;have y:=Lib.hid hi;have x:=Lib.hid Z;have b1:=Lib.hid F;have A:=Lib.hid u;have a0:=Lib.hid v;have a1:=Lib.hid J;have z0:w.heap.size < i.heap.size:=ah F;have o0:i.cell? ⟨w.heap.size,0,none⟩=some (.int .i64 o):=by rw [Lib.cell_of_heap F];rfl
 have o1:i.cell? ⟨w.heap.size,1,none⟩=some (.int .i64 D):=by rw [Lib.cell_of_heap F];rfl
 have X:i.cell? ⟨w.heap.size,2,none⟩=some (.int .i64 f):=by rw [Lib.cell_of_heap F];rfl
 have a4:=Lib.hid X;have I:i.cell? ⟨gb,0,none⟩=some (.pointer (some ⟨pp,0,none⟩)):=U.cells.1;have b0:=Lib.hid C;have a5:=Lib.hid PV;clear h hi J h1 h2 h3 F Z u U v eK C PV;subst hk;obtain ⟨a,ha,P⟩:=a5.out 30 (by decide) (by decide);have r:=Lib.hid P;have b:=Lib.hid (q.out.below ((Below.refl _ i).drew));have s:=q.out.cells.2.2.2.1;have k:=q.out.post.sok.time;obtain ⟨N,p⟩:∃N,g.S.time=N:=⟨_,rfl⟩;have k:N≤1000000000:=by rw [←p];exact k
 rw [p] at s;obtain ⟨T,V⟩:∃T,N+a=T:=⟨_,rfl⟩;have hw:IntKind.i64.wrap ((N:Int)+(a:Int))=(T:Int):=by rw [IntKind.wrap_i64];omega
 have HN:=Lib.hid p;have HT:=Lib.hid V;clear P bK
 by_cases h9:T≤1000000000
 ·cases j:g.tk with
  | some t=>
   have B:=b.out.post;rw [j] at B;have G:=Lib.hid (B.tickBusy (T:Int) (by rw [p];omega));clear B j p V;go_enter Tryz.func9,Tryz.ntmps9;go_wp2_with fail
   rw [A.out];refine (z.out _).mono ?_;rintro e w1 ⟨rfl,rfl⟩;go_wp2_with fail
   go_region_held3 (fun w'=>w'.cell? ⟨gb,0,none⟩=some (.pointer (some ⟨pp,0,none⟩))∧w'.cell? ⟨w.heap.size,2,none⟩=some (.int .i64 f)∧w'.cell? ⟨gb,12,none⟩=some (.int .i64 N))
    (exact ⟨I,X,s⟩)
    (first
     | (go_at_call 20;refine (r.out _).mono ?_;rintro e wx ⟨rfl,rfl⟩)
     | (go_at_call 23;refine G.out.mono ?_;rintro e Y ⟨rfl,rfl⟩))
   all_goals
    go_wp2_with fail
    refine bodyPost_end (results_none rfl _ _ _) rfl ?_;exact ⟨rfl,0,g,by omega,.nil g,y.out,cX.from x.out (cX.from ((Below.refl _ i).drew) (cX.refl b.out))⟩
  | none=>
   have B:=b.out.post;rw [j] at B;have Q:hU c g (yj c g T):= .tick g T ⟨by rw [p];omega,h9⟩ j
   have H:=Lib.hid Q;have R:=(b.out.post.laters.1 T ⟨by rw [p];omega,h9⟩).2
   have G:Hid (Calls Tryz.prog 23 #[.pointer (some ⟨pp,0,none⟩),.int .i64 (T:Int)] i.drew fun e w'=>e= .returned (.int .i64 0)∧w'.cell? ⟨gb,0,none⟩=some (.pointer (some ⟨pp,0,none⟩))∧w'.cell? ⟨gb,12,none⟩=some (.int .i64 N)∧w'.frozen? ⟨gb,12,none⟩=false∧w'.cell? ⟨w.heap.size,2,none⟩=some (.int .i64 f)∧cX E own pp gb c i.drew vS vM (yj c g T) (w'.drew.setCell ⟨gb,12,none⟩ (.int .i64 T))):=Lib.hid (by
    refine (B.tick T ⟨by rw [p];omega,h9⟩).mono ?_;rintro e Y ⟨rfl,O⟩;obtain ⟨k1,k2,k3⟩:=b.out.callT O ((Below.refl _ Y).drew);obtain ⟨a8,_,_,a3⟩:=O;have a6:¬(w.heap.size=pp∨own w.heap.size):=fun e=>a0.out (e.imp id .inl);have M:¬(gb=pp∨own gb):=fun e=>e.elim (fun e=>(b.out.off gb (.inl rfl)).2.1 (by rw [e];exact b.out.post.epp)) (b.out.off gb (.inl rfl)).2.2;rw [HN.out] at k1;rw [R] at k3
    have e:({g with S:=(dw c.life (⟨g.S.items,T⟩,g.recs) g.S.live).1,recs:=(dw c.life (⟨g.S.items,T⟩,g.recs) g.S.live).2,l:=g.l,tk:=none,d:=oS g.S (dw c.life (⟨g.S.items,T⟩,g.recs) g.S.live).1 g.d}:GS)=yj c g T:=by
     unfold yj;rw [←j]
    rw [e] at k3
    exact ⟨rfl,(World.cell?_of_block (a3.block gb (aC I) M)).trans I,k1,k2,(World.cell?_of_block (a3.block w.heap.size z0 a6)).trans a4.out,k3⟩)
   clear B j Q R p V;go_enter Tryz.func9,Tryz.ntmps9;go_wp2_with fail
   rw [A.out];refine (z.out _).mono ?_;rintro e w1 ⟨rfl,rfl⟩;go_wp2_with fail
   go_region_held3 (fun w'=>w'.cell? ⟨gb,0,none⟩=some (.pointer (some ⟨pp,0,none⟩))∧w'.cell? ⟨w.heap.size,2,none⟩=some (.int .i64 f)∧w'.cell? ⟨gb,12,none⟩=some (.int .i64 N))
    (first | exact S2 | exact ⟨I,X,s⟩)
    (first
     | (go_at_call 20;refine (r.out _).mono ?_;rintro e wx ⟨rfl,rfl⟩)
     | (go_at_call 23;refine G.out.mono ?_;rintro e Y ⟨rfl,q0,a7,b2,q2,L⟩;have S2:=And.intro q0 (And.intro q2 a7);have a2:=Lib.hid L;clear L))
   go_wp2_with fail
   go_region_law (first
    | (go_simp;go_at_call 20;refine (r.out _).mono ?_;rintro e wx ⟨rfl,rfl⟩;dsimp only))
   all_goals
    go_wp2_with fail
    refine bodyPost_end (results_none rfl _ _ _) rfl ?_;exact ⟨rfl,1,yj c g T,by omega,fy.one H.out,q.out.step a1.out y.out H.out,cX.from x.out (cX.from ((Below.refl _ i).drew) a2.out)⟩
 ·have G:=Lib.hid (b.out.post.tickNo (T:Int) (by omega));clear p V;go_enter Tryz.func9,Tryz.ntmps9;go_wp2_with fail
  rw [A.out];refine (z.out _).mono ?_;rintro e w1 ⟨rfl,rfl⟩;go_wp2_with fail
  go_region_held3 (fun w'=>w'.cell? ⟨gb,0,none⟩=some (.pointer (some ⟨pp,0,none⟩))∧w'.cell? ⟨w.heap.size,2,none⟩=some (.int .i64 f)∧w'.cell? ⟨gb,12,none⟩=some (.int .i64 N))
   (exact ⟨I,X,s⟩)
   (first
    | (go_at_call 20;refine (r.out _).mono ?_;rintro e wx ⟨rfl,rfl⟩)
    | (go_at_call 23;refine G.out.mono ?_;rintro e Y ⟨rfl,rfl⟩))
  all_goals
   go_wp2_with fail
   refine bodyPost_end (results_none rfl _ _ _) rfl ?_;exact ⟨rfl,0,g,by omega,.nil g,y.out,cX.from x.out (cX.from ((Below.refl _ i).drew) (cX.refl b.out))⟩
end
end Go.Proofs.YtofpegbpgkkgkaaGreatDoor
