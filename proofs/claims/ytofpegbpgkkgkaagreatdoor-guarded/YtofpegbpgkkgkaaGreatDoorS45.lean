import Derived.Test.YtofpegbpgkkgkaaGreatDoorS41
namespace Go.Proofs.YtofpegbpgkkgkaaGreatDoor
set_option maxHeartbeats 8000000
set_option maxRecDepth 1000000
open Go.RowKit
section
variable {E B:Nat→Prop} {pp pb mb:Nat} {c:bT} {w w':World} {q:Nat→Nat} {vr:Value} {S:aa} {recs:List UInt8} {vs:Value} {l:List (Option dQ)} {x:dQ}
end
section
variable {E own:Nat→Prop} {pp gb:Nat} {c:bT} {w:World} {vS vM:Value} {sl:List (bV×Value)} {ml:List (aR×Value)} {g g':GS}
theorem It (g:GS) (h:g.bad=false):({g with bad:=false}:GS)=g:=by
 cases g
 cases h
 rfl
theorem BH (a8:eQ c) (h:gL E own pp gb c w vS vM sl ml g) (hi:iq g) (u J j:Int) (h1: -9223372036854775808≤u∧u≤9223372036854775807) (h2: -9223372036854775808≤J∧J≤9223372036854775807) (h3: -9223372036854775808≤j∧j≤9223372036854775807) (hk:cx u 12=6):
  Calls Tryz.prog 9 #[.pointer (some ⟨gb,0,none⟩),.agg #[.int .i64 u,.int .i64 J,.int .i64 j]] w (jd E own pp gb c w vS vM g):=by
 obtain ⟨p,x⟩:∃W:World,w.alloc (.cells #[.int .i64 u,.int .i64 J,.int .i64 j] 34)=W:=⟨_,rfl⟩;have M:p.heap[w.heap.size]? =some (.cells #[.int .i64 u,.int .i64 J,.int .i64 j] 34 (0,0)):=by rw [←x];exact heap_alloc_new w _
 have B0:Below w.heap.size w p:=by rw [←x];exact (Below.refl _ _).alloc (Nat.le_refl _) _
 have y:¬(w.heap.size=pp∨own w.heap.size∨fM gb vS vM w.heap.size):=fun e=>by
  rcases e with e | e | e
  ·have:=h.post.elt h.post.epp;omega
  ·have:=h.post.lt e;omega
  ·have:=(h.off _ e).1;omega
 have G0:=h.below B0;have I:sl.length≤100:=by rw [h.slen,hi.len];exact h.post.len
 obtain ⟨K,eK⟩:∃K,cx u 12=K:=⟨_,rfl⟩;have bK:=cO u (n:=12) (by decide);rw [eK] at bK hk;have S:Hid (∀W:World,Calls Tryz.prog 20 #[.int .i64 u,.int .i64 12] W fun e r=>e= .returned (.int .i64 K)∧W=r):=Lib.hid (fun W=>by have:=bZ u 12 W h1.1 h1.2 (by decide) (by decide);rw [eK] at this;exact this)
 have PV:∀(m:Int),0 < m→m≤1000→∃a:Nat,(a:Int) < m∧∀W:World,Calls Tryz.prog 20 #[.int .i64 j,.int .i64 m] W fun e r=>e= .returned (.int .i64 (a:Int))∧W=r:=fun m hm d2=>by
  have hb:=cO j hm;refine ⟨(cx j m).toNat,by omega,fun W=>?_⟩
  have:=bZ j m W h3.1 h3.2 hm (by omega);rw [show ((cx j m).toNat:Int)=cx j m by omega]
  exact this
 have c9:=Lib.hid (gY G0 J h2.1 h2.2 I);have d:=Lib.hid G0;have f:=Lib.hid hi;have Q:=Lib.hid B0;have d0:=Lib.hid M;have V:=Lib.hid x;have b5:=Lib.hid y;have b6:=Lib.hid a8;have z0:w.heap.size < p.heap.size:=ah M;have o0:p.cell? ⟨w.heap.size,0,none⟩=some (.int .i64 u):=by rw [Lib.cell_of_heap M];rfl
 have o1:p.cell? ⟨w.heap.size,1,none⟩=some (.int .i64 J):=by rw [Lib.cell_of_heap M];rfl
 have o2:p.cell? ⟨w.heap.size,2,none⟩=some (.int .i64 j):=by rw [Lib.cell_of_heap M];rfl
 have b7:=Lib.hid o2;have c0:p.cell? ⟨gb,0,none⟩=some (.pointer (some ⟨pp,0,none⟩)):=G0.cells.1;have F:=Lib.hid I;have b8:=Lib.hid PV;clear h hi a8 h1 h2 h3 M B0 x G0 y eK I PV;subst hk;obtain ⟨a,ha,a9⟩:=b8.out 1000 (by decide) (by decide);have D:=Lib.hid a9;obtain ⟨G,cs,eS⟩:=aE (aC d.out.srow);subst eS;have s:=d.out.below ((Below.refl _ p).drew);have R:=Lib.hid s;have t:=f.out.len;have i:=d.out.slen;have q:=d.out.cells.2.1;have a0:=d.out.cells.2.2.2.2.1;have a7:=f.out.bad;rw [a7] at a0;have d1:gb < p.heap.size:=aA c0;clear a9 bK
 by_cases hl:g.l.length < 100
 ·obtain ⟨L,eL⟩:∃L,g.l.length=L:=⟨_,rfl⟩
  have C:Hid (Calls Tryz.prog 13 #[.pointer (some ⟨pp,0,none⟩),.int .i64 (a:Int)] p.drew fun e r=>e= .returned (.tuple #[.int .i64 (L:Int),.string (bs (nZ c)),.int .i64 0])∧∃b,gL E b pp gb c r (.slice G sl.length cs) vM sl ml {g with l:=g.l++[some (gx c (a:Int))]}∧(∀k,b k→own k∨p.drew.heap.size≤k)∧aF (fun k=>k=pp∨own k) p.drew r∧r.cell? ⟨w.heap.size,2,none⟩=some (.int .i64 j)):=Lib.hid (by
   have hh:=s.post.conn (a:Int) (by omega) (by omega) hl;rw [eL] at hh;refine hh.mono ?_;rintro e B ⟨rfl,c8⟩;obtain ⟨b,v,a2,Y⟩:=R.out.call c8 rfl;have c7:¬(w.heap.size=pp∨own w.heap.size):=fun e=>b5.out (e.imp id .inl)
   exact ⟨rfl,b,v,a2,Y,(World.cell?_of_block (Y.block w.heap.size z0 c7)).trans b7.out⟩)
  clear s;have HL:Hid (sl.length=L):=Lib.hid (by rw [i,t,eL]);clear q a0 eL t i;go_enter Tryz.func9,Tryz.ntmps9;go_wp2_with fail
  rw [V.out];refine (S.out _).mono ?_;rintro e w1 ⟨rfl,rfl⟩;go_wp2_with fail
  go_region_held3 (fun r=>r.cell? ⟨gb,0,none⟩=some (.pointer (some ⟨pp,0,none⟩))∧r.cell? ⟨w.heap.size,2,none⟩=some (.int .i64 j))
   (first | exact S2 | exact ⟨c0,o2⟩)
   (first
    | (go_at_call 20;refine (D.out _).mono ?_;rintro e wx ⟨rfl,rfl⟩)
    | (go_at_call 13;refine C.out.mono ?_;rintro e B ⟨rfl,b,v,a2,Y,p2⟩;have S2:=And.intro v.cells.1 p2;have P:=Lib.hid v;have b3:=Lib.hid a2;have b4:=Lib.hid Y;clear v a2 Y))
  have v:=P.out;have q:=v.cells.2.1;have X:=v.below ((Below.refl _ B).drew);obtain ⟨gm,A,W3,r1,r2,r3,r4,r5,r6⟩:=X.appS (a:Int) (by have:=F.out;omega);have c3:Hid ((Builtin.append_ #[39,39] 39 #[.slice G sl.length cs,.slice (some ⟨B.heap.size,0,none⟩) 1 1]).run Tryz.prog (B.alloc (.cells #[.int .i64 (a:Int),.bool false,.bool false,.bool false,.slice none 0 0] 51)).drew= .ok (.slice (some ⟨gm,0,none⟩) (sl.length+1) A) W3):=Lib.hid r1;have Z:∀o:Obj,(B.alloc o).cell? ⟨gb,10,none⟩=some (.slice G sl.length cs):=fun o=>(((Below.refl _ B).alloc (Nat.le_refl _) o).cell (aA q)).trans q;have T:=Lib.hid r4;have U:=Lib.hid r5;have c4:=Lib.hid r6;clear v X r1 r4 r5 r6 P;go_wp2_with fail
  go_region_law (first
   | (refine gl rfl _ _ 39 39 rfl _ _ _ W3 rfl rfl c3.out ?_)
   | (go_simp;go_at_call 20;refine (D.out _).mono ?_;rintro e wx ⟨rfl,rfl⟩;dsimp only))
  all_goals
   obtain ⟨W4,a6⟩:∃W:World,W3.setCell ⟨gb,10,none⟩ (.slice (some ⟨gm,0,none⟩) (sl.length+1) A)=W:=⟨_,rfl⟩;have O:=T.out;have q5:=U.out;rw [a6] at O q5 ⊢;have c5:=O.cells.2.1;have c6:W4.cell? ⟨gb,13,none⟩=some (.bool false):=by rw [O.cells.2.2.2.2.1,←f.out.bad]
   have d3:=O.cells.2.2.2.2.2 13;obtain ⟨N2,a4⟩:∃N,sl.length+1=N:=⟨_,rfl⟩;rw [a4] at c5
   have hw:IntKind.i64.wrap ((N2:Int) - 1)=(L:Int):=by
    have h1:=HL.out;have h2:=F.out;rw [IntKind.wrap_i64];omega
   have c1:=Lib.hid O;have c2:=Lib.hid q5;clear O q5 a6 T U r2 r3 q Z p2 a4;go_wp2_with fail
   refine bodyPost_end (results_none rfl _ _ _) rfl ?_;obtain ⟨H,b2⟩:=c1.out.putB false;have b0:iA c g (CL c g (a:Int)):= .conn g (a:Int) (by omega) (by omega) hl;have H:=H.same (It (CL c g (a:Int)) f.out.bad)
   exact ⟨rfl,1,CL c g (a:Int),by omega,fK.one b0,d.out.step b6.out f.out b0,cY.from Q.out (cY.from ((Below.refl _ p).drew) (cY.called b3.out b4.out (cY.from ((Below.refl _ B).drew) (cY.turned c2.out (fun k e=>by
    rcases e with e | e | e
    ·exact .inl (.inl e)
    ·have e:gm=k:=by simpa [Value.ownBlock] using e
     rw [←e];exact c4.out.imp (fun z=> .inr (.inl z)) id
    ·exact .inl (.inr (.inr e))) (cY.turned b2 (fun k e=> .inl e) (cY.refl H))))))⟩
 ·have C:=Lib.hid (s.post.connNo (a:Int) hl)
  have a5:sl.length=100:=by
   have h1:=F.out;omega
  rw [a5] at q;have c6:=d.out.cells.2.2.2.2.2 13;clear s hl t i;go_enter Tryz.func9,Tryz.ntmps9;go_wp2_with fail
  rw [V.out];refine (S.out _).mono ?_;rintro e w1 ⟨rfl,rfl⟩;go_wp2_with fail
  go_region_held3 (fun r=>r.cell? ⟨gb,0,none⟩=some (.pointer (some ⟨pp,0,none⟩))∧r.cell? ⟨w.heap.size,2,none⟩=some (.int .i64 j))
   (exact ⟨c0,o2⟩)
   (first
    | (go_at_call 20;refine (D.out _).mono ?_;rintro e wx ⟨rfl,rfl⟩)
    | (go_at_call 13;refine C.out.mono ?_;rintro e B ⟨rfl,rfl⟩))
  go_wp2_with fail
  refine bodyPost_end (results_none rfl _ _ _) rfl ?_;obtain ⟨H,b2⟩:=R.out.putB false;have H:=H.same (show _=g by rw [←f.out.bad]);exact ⟨rfl,0,g,by omega,.nil g,f.out,cY.from Q.out (cY.from ((Below.refl _ p).drew) (cY.turned b2 (fun k e=> .inl e) (cY.refl H)))⟩
end
end Go.Proofs.YtofpegbpgkkgkaaGreatDoor
