import Derived.Test.YtofpegbpgkkgkaaGreatDoorS22
namespace Go.Proofs.YtofpegbpgkkgkaaGreatDoor
set_option maxHeartbeats 8000000
set_option maxRecDepth 1000000
open Go.RowKit
section
variable {E own:Nat→Prop} {pp gb:Nat} {c:bX} {w:World} {vS vM:Value} {sl:List (ca×Value)} {ml:List (aX×Value)} {g g':GS}
theorem Dg (I:dX c) (h:gX E own pp gb c w vS vM sl ml g) (B:hJ g) (j z d:Int) (S: -9223372036854775808≤j∧j≤9223372036854775807) (T: -9223372036854775808≤z∧z≤9223372036854775807) (U: -9223372036854775808≤d∧d≤9223372036854775807) (hk:cM j 12=8):
  Calls Tryz.prog 9 #[.pointer (some ⟨gb,0,none⟩),.agg #[.int .i64 j,.int .i64 z,.int .i64 d]] w (jG E own pp gb c w vS vM g):=by
 obtain ⟨u,k⟩:∃W:World,w.alloc (.cells #[.int .i64 j,.int .i64 z,.int .i64 d] 34)=W:=⟨_,rfl⟩;have A:u.heap[w.heap.size]? =some (.cells #[.int .i64 j,.int .i64 z,.int .i64 d] 34 (0,0)):=by rw [←k];exact heap_alloc_new w _
 have O:Below w.heap.size w u:=by rw [←k];exact (Below.refl _ _).alloc (Nat.le_refl _) _
 have l:¬(w.heap.size=pp∨own w.heap.size∨fX gb vS vM w.heap.size):=fun e=>by
  rcases e with e | e | e
  ·have:=h.post.elt h.post.epp;omega
  ·have:=h.post.lt e;omega
  ·have:=(h.off _ e).1;omega
 have N:=h.below O;have y:sl.length≤100:=by rw [h.slen,B.len];exact h.post.len
 obtain ⟨K,R⟩:∃K,cM j 12=K:=⟨_,rfl⟩;have Z:=dt j (n:=12) (by decide);rw [R] at Z hk;have C:Hid (∀W:World,Calls Tryz.prog 20 #[.int .i64 j,.int .i64 12] W fun e V=>e= .returned (.int .i64 K)∧W=V):=Lib.hid (fun W=>by have:=bZ j 12 W S.1 S.2 (by decide) (by decide);rw [R] at this;exact this)
 have Y:∀(m:Int),0 < m→m≤1000→∃a:Nat,(a:Int) < m∧∀W:World,Calls Tryz.prog 20 #[.int .i64 d,.int .i64 m] W fun e V=>e= .returned (.int .i64 (a:Int))∧W=V:=fun m hm a9=>by
  have hb:=dt d hm;refine ⟨(cM d m).toNat,by omega,fun W=>?_⟩
  have:=bZ d m W U.1 U.2 hm (by omega);rw [show ((cM d m).toNat:Int)=cM d m by omega]
  exact this
 have a5:=Lib.hid (iz N z T.1 T.2 y);have b:=Lib.hid N;have s:=Lib.hid B;have r:=Lib.hid O;have a8:=Lib.hid A;have F:=Lib.hid k;have a0:=Lib.hid l;have P:=Lib.hid I;have z0:w.heap.size < u.heap.size:=ah A;have o0:u.cell? ⟨w.heap.size,0,none⟩=some (.int .i64 j):=by rw [Lib.cell_of_heap A];rfl
 have o1:u.cell? ⟨w.heap.size,1,none⟩=some (.int .i64 z):=by rw [Lib.cell_of_heap A];rfl
 have o2:u.cell? ⟨w.heap.size,2,none⟩=some (.int .i64 d):=by rw [Lib.cell_of_heap A];rfl
 have a4:=Lib.hid o2;have c0:u.cell? ⟨gb,0,none⟩=some (.pointer (some ⟨pp,0,none⟩)):=N.cells.1;have a7:=Lib.hid y;have a6:=Lib.hid Y;clear h B I S T U A O k N l R y Y;subst hk;clear Z
 cases L:g.tk with
 | some t=>
  have x:=b.out.post;rw [L] at x;have Q:=Lib.hid x.dialBusy;clear x L;go_enter Tryz.func9,Tryz.ntmps9;go_wp2_with fail
  rw [F.out];refine (C.out _).mono ?_;rintro e w1 ⟨rfl,rfl⟩;go_wp2_with fail
  refine Q.out.mono ?_;rintro e w2 ⟨rfl,rfl⟩;go_wp2_with fail
  refine bodyPost_end (results_none rfl _ _ _) rfl ?_;exact ⟨rfl,0,g,by omega,.nil g,s.out,cX.from r.out (cX.refl b.out)⟩
 | none=>
  have x:=b.out.post;rw [L] at x;have Q:=Lib.hid x.dial;have X:=Lib.hid L;clear x L;go_enter Tryz.func9,Tryz.ntmps9;go_wp2_with fail
  rw [F.out];refine (C.out _).mono ?_;rintro e w1 ⟨rfl,rfl⟩;go_wp2_with fail
  refine Q.out.mono ?_;rintro e w2 (⟨_,rfl,f⟩ | ⟨i,B,hd,rfl,f⟩)
  ·obtain ⟨M,v,G,H⟩:=b.out.call f rfl;have v:=v.same (show _=g by rw [←X.out]);have o:=Lib.hid v;have p:=Lib.hid G;have q:=Lib.hid H;clear f v G H;go_wp2_with fail
   refine bodyPost_end (results_none rfl _ _ _) rfl ?_;exact ⟨rfl,0,g,by omega,.nil g,s.out,cX.from r.out (cX.called p.out q.out (cX.refl o.out))⟩
  ·obtain ⟨M,v,G,H⟩:=b.out.call f rfl;have J:hU c g {g with tk:=some (jM g.S i)}:= .dial g i B hd X.out;have D:=Lib.hid J;have o:=Lib.hid v;have p:=Lib.hid G;have q:=Lib.hid H;clear f v G H J B hd;go_wp2_with fail
   refine bodyPost_end (results_none rfl _ _ _) rfl ?_;exact ⟨rfl,1,_,by omega,fy.one D.out,b.out.step P.out s.out D.out,cX.from r.out (cX.called p.out q.out (cX.refl o.out))⟩
def JQ:List Nat:=[220,250,250,250,354,354,451,550,200,599]
theorem I1 (h:gX E own pp gb c w vS vM sl ml g) (a:Nat) (q:200≤a∧a≤599):
  Calls Tryz.prog 33 #[.pointer (some ⟨pp,0,none⟩),.int .i64 (a:Int)] w fun e x=>∃s v,e= .returned (.tuple #[.string s,.int .i64 v])∧∃k g',k≤9∧fy c k g g'∧(hJ g→dX c→hJ g')∧cX E own pp gb c w vS vM g' x:=by
 have j:=h.post
 cases l:g.tk with
 | none=>
  rw [l] at j;refine (j.ansIdle (a:Int)).mono ?_;rintro e u ⟨rfl,rfl⟩;exact ⟨_,_,rfl,0,g,by omega,.nil g,fun i _=>i,cX.refl h⟩
 | some t=>
  rw [l] at j
  by_cases r:t.said=6
  ·refine (j.ansEnd r a q).mono ?_;rintro e u ⟨rfl,f⟩;obtain ⟨m,n,o,p⟩:=h.call f (h.post.laters.2 t l).2;have b:hU c g (Bt c g t):= .over g t l;exact ⟨_,_,rfl,1,Bt c g t,by omega,fy.one b,fun i d=>h.step d i b,cX.called o p (cX.refl n)⟩
  ·refine (j.ans r a q).mono ?_;rintro e u ⟨rfl,f⟩;obtain ⟨m,n,o,p⟩:=h.call f rfl;have b:hU c g {g with tk:=some (Gn c g.S t a).1}:= .ans g t a q r l;exact ⟨_,_,rfl,1,_,by omega,fy.one b,fun i d=>h.step d i b,cX.called o p (cX.refl n)⟩
theorem Ft (x:dX c) (h:gX E own pp gb c w vS vM sl ml g) (hi:hJ g) (i t f:Int) (h1: -9223372036854775808≤i∧i≤9223372036854775807) (h2: -9223372036854775808≤t∧t≤9223372036854775807) (h3: -9223372036854775808≤f∧f≤9223372036854775807) (hk:cM i 12=9∨cM i 12=10):
  Calls Tryz.prog 9 #[.pointer (some ⟨gb,0,none⟩),.agg #[.int .i64 i,.int .i64 t,.int .i64 f]] w (jG E own pp gb c w vS vM g):=by
 obtain ⟨d,q⟩:∃W:World,w.alloc (.cells #[.int .i64 i,.int .i64 t,.int .i64 f] 34)=W:=⟨_,rfl⟩;have u:d.heap[w.heap.size]? =some (.cells #[.int .i64 i,.int .i64 t,.int .i64 f] 34 (0,0)):=by rw [←q];exact heap_alloc_new w _
 have I:Below w.heap.size w d:=by rw [←q];exact (Below.refl _ _).alloc (Nat.le_refl _) _
 have r:¬(w.heap.size=pp∨own w.heap.size∨fX gb vS vM w.heap.size):=fun e=>by
  rcases e with e | e | e
  ·have:=h.post.elt h.post.epp;omega
  ·have:=h.post.lt e;omega
  ·have:=(h.off _ e).1;omega
 have G:=h.below I;have s:sl.length≤100:=by rw [h.slen,hi.len];exact h.post.len
 obtain ⟨K,Z⟩:∃K,cM i 12=K:=⟨_,rfl⟩;have bK:=dt i (n:=12) (by decide);rw [Z] at bK hk;have Q:Hid (∀W:World,Calls Tryz.prog 20 #[.int .i64 i,.int .i64 12] W fun e F=>e= .returned (.int .i64 K)∧W=F):=Lib.hid (fun W=>by have:=bZ i 12 W h1.1 h1.2 (by decide) (by decide);rw [Z] at this;exact this)
 have PV:∀(m:Int),0 < m→m≤1000→∃a:Nat,(a:Int) < m∧∀W:World,Calls Tryz.prog 20 #[.int .i64 f,.int .i64 m] W fun e F=>e= .returned (.int .i64 (a:Int))∧W=F:=fun m hm b1=>by
  have hb:=dt f hm;refine ⟨(cM f m).toNat,by omega,fun W=>?_⟩
  have:=bZ f m W h3.1 h3.2 hm (by omega);rw [show ((cM f m).toNat:Int)=cM f m by omega]
  exact this
 have a7:=Lib.hid (iz G t h2.1 h2.2 s);have M:=Lib.hid G;have N:=Lib.hid hi;have J:=Lib.hid I;have a9:=Lib.hid u;have U:=Lib.hid q;have a4:=Lib.hid r;have L:=Lib.hid x;have z0:w.heap.size < d.heap.size:=ah u;have o0:d.cell? ⟨w.heap.size,0,none⟩=some (.int .i64 i):=by rw [Lib.cell_of_heap u];rfl
 have o1:d.cell? ⟨w.heap.size,1,none⟩=some (.int .i64 t):=by rw [Lib.cell_of_heap u];rfl
 have o2:d.cell? ⟨w.heap.size,2,none⟩=some (.int .i64 f):=by rw [Lib.cell_of_heap u];rfl
 have a6:=Lib.hid o2;have c0:d.cell? ⟨gb,0,none⟩=some (.pointer (some ⟨pp,0,none⟩)):=G.cells.1;have a8:=Lib.hid s;have R:=Lib.hid PV;clear h hi x h1 h2 h3 u I q G r Z s PV;obtain ⟨a,ha,z⟩:=R.out 10 (by decide) (by decide);have P:=Lib.hid z;have b0:a < 10:=by omega
 obtain ⟨b,H,l⟩:∃b:Nat,JQ[a]? =some b∧200≤b∧b≤599:=by
  have:a=0∨a=1∨a=2∨a=3∨a=4∨a=5∨a=6∨a=7∨a=8∨a=9:=by omega
  rcases this with rfl | rfl | rfl | rfl | rfl | rfl | rfl | rfl | rfl | rfl <;> exact ⟨_,rfl,by decide⟩
 obtain ⟨C0,j⟩:∃C:Array Value,#[.int .i64 220,.int .i64 250,.int .i64 250,.int .i64 250,.int .i64 354,.int .i64 354,.int .i64 451,.int .i64 550,.int .i64 200,.int .i64 599]=C:=⟨_,rfl⟩
 have p:C0[a]? =some (.int .i64 (b:Int)):=by
  have:a=0∨a=1∨a=2∨a=3∨a=4∨a=5∨a=6∨a=7∨a=8∨a=9:=by omega
  rw [←j]
  rcases this with rfl | rfl | rfl | rfl | rfl | rfl | rfl | rfl | rfl | rfl <;> (injection H with H;subst H;rfl)
 have v:Hid (∀W:World,Below d.heap.size d W→Calls Tryz.prog 33 #[.pointer (some ⟨pp,0,none⟩),.int .i64 (b:Int)] W fun e F=>∃D er,e= .returned (.tuple #[.string D,.int .i64 er])∧∃k g',k≤9∧fy c k g g'∧(hJ g→dX c→hJ g')∧cX E own pp gb c W vS vM g' F):=Lib.hid (fun W hb=>I1 (M.out.below hb) b l);have a2:=Lib.hid p;have a5:=Lib.hid j;have a3:C0.size=10:=by rw [←j];rfl
 have V:∀o:Obj,(d.alloc o).cell? ⟨gb,0,none⟩=some (.pointer (some ⟨pp,0,none⟩)):=fun o=>(((Below.refl _ d).alloc (Nat.le_refl _) o).cell (aC c0)).trans c0;have X:∀o:Obj,(d.alloc o).cell? ⟨w.heap.size,2,none⟩=some (.int .i64 f):=fun o=>(((Below.refl _ d).alloc (Nat.le_refl _) o).cell (aC o2)).trans o2
 have Y:(d.alloc (.cells #[.int .i64 220,.int .i64 250,.int .i64 250,.int .i64 250,.int .i64 354,.int .i64 354,.int .i64 451,.int .i64 550,.int .i64 200,.int .i64 599] 3)).cell? ⟨d.heap.size,a,none⟩=some (.int .i64 (b:Int)):=by
  rw [j,Lib.cell_of_heap (heap_alloc_new d _)];exact p
 have a1:=ha;clear z bK H j p l ha
 rcases hk with rfl | rfl
 all_goals
  go_enter Tryz.func9,Tryz.ntmps9;go_wp2_with fail
  rw [U.out];refine (Q.out _).mono ?_;rintro e w1 ⟨rfl,rfl⟩;go_wp2_with fail
  go_region_law (first
   | (go_simp;go_at_call 20;refine (P.out _).mono ?_;rintro e wx ⟨rfl,rfl⟩;dsimp only)
   | (go_simp;go_at_call 33;refine (v.out _ (((Below.refl _ d).alloc (Nat.le_refl _) _).drew)).mono ?_;rintro e w2 ⟨D,er,rfl,k,g2,a0,A,y,B⟩;have S:=Lib.hid A;have O:=Lib.hid y;have T:=Lib.hid B;clear A y B;dsimp only))
  all_goals
   go_wp2_with fail
   refine bodyPost_end (results_none rfl _ _ _) rfl ?_;exact ⟨rfl,k,g2,a0,S.out,O.out N.out L.out,cX.from J.out (cX.from (((Below.refl _ d).alloc (Nat.le_refl _) _).drew) T.out)⟩
end
end Go.Proofs.YtofpegbpgkkgkaaGreatDoor
