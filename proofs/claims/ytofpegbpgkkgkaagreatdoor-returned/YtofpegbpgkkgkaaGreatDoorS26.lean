import Derived.Test.YtofpegbpgkkgkaaGreatDoorS25
import Derived.Test.YtofpegbpgkkgkaaGreatDoorS18
namespace Go.Proofs.YtofpegbpgkkgkaaGreatDoor
set_option maxHeartbeats 8000000
set_option maxRecDepth 1000000
open Go.RowKit
def dI (c:bX) (addr:Int):bG:=⟨c.nets.any (iZ addr),false,false,false,[],none⟩
def mX (c:bX):List UInt8:=[50,50,48,32]++cQ c++[13,10]
theorem Hs {c:bX} (h:ij c=true):∀x∈c.nets,0≤x.2∧x.2≤32:=by
 unfold ij nr at h;simp only [Bool.and_eq_true] at h;obtain ⟨⟨⟨⟨⟨⟨⟨⟨_,_⟩,⟨_,a⟩⟩,_⟩,_⟩,_⟩,_⟩,_⟩,_⟩:=h;intro x b;have:=List.all_eq_true.1 a x b;unfold qg cF at this;simp only [Bool.and_eq_true,decide_eq_true_eq] at this;exact this.1.1
theorem aH.toBelow {B:Nat→Prop} {a b:World} {s:Nat} (h:aH B a b) (c:∀k,B k→s≤k) (f:s≤a.heap.size):Below s a b:=⟨h.still.1,h.still.2.1,h.still.2.2,h.size,fun k d=>h.block k (by omega) (fun e=>by have:=c k e;omega)⟩
theorem rk {w:World} {sb b f:Nat} {C:Array Value} {G:List (List UInt8)} {v:Value} {i:List UInt8} (A:bT w sb b C G) (Y:jE 0 w f v i) (y:sb≠f) (J:b≠f) (X:v.ownBlock≠some sb) (Z:∀l∈G,l.length≤1048576) (K:i.length+G.flatten.length≤140737488355328):
  Calls Tryz.prog 63 #[.pointer (some ⟨sb,0,none⟩),.pointer (some ⟨f,0,none⟩)] w fun e t=>e= .returned (.tuple #[])∧∃d,bT t sb b C []∧jE 0 t f d (i++G.flatten)∧(∀g,d.ownBlock=some g→v.ownBlock=some g∨w.heap.size≤g)∧aH (fun k=>k=b∨k=f∨v.ownBlock=some k) w t:=by
 obtain ⟨sq,r,D⟩:=A.chan
 have F:¬(sb=b∨sb=f∨v.ownBlock=some sb):=fun x=>by
  rcases x with x | x | x
  ·exact A.ne x
  ·exact y x
  ·exact X x
 let Bd:List UInt8→World→Prop:=fun a t=>∃d,jE 0 t f d a∧(∀g,d.ownBlock=some g→v.ownBlock=some g∨w.heap.size≤g)∧aH (fun k=>k=b∨k=f∨v.ownBlock=some k) w t∧∃m q p,t.heap[b]? =some (.chan 3 m false q p false)
 have P:=zB Bd sb b sq r false (.pointer (some ⟨f,0,none⟩)) G i w ?_ ?_ ?_ ⟨v,Y,fun g e=> .inl e,aH.refl _ _,_,_,_,D⟩ D Z K
 ·refine P.mono ?_;rintro e t ⟨rfl,q,p,⟨d,s,u,j,_⟩,c⟩;exact ⟨rfl,d,⟨j.some_ A.blk F,A.size,A.told,q,p,c⟩,s,u,j⟩
 ·rintro a l W ⟨d,s,u,j,m,q,p,c⟩ _ E
  have n:d.ownBlock≠some b:=fun e=>by
   obtain ⟨H,z,y⟩:=gB s.row e;rw [c] at y;cases y
  refine (r8 0 f d a l W s (Nat.zero_le _) E).mono ?_;rintro e Q ⟨⟨rv,rfl⟩,⟨v2,T,U⟩,I,V,O⟩
  have L:aH (fun k=>k=f∨d.ownBlock=some k) W Q:=⟨O,fun k B S=>by
   rw [Array.getElem?_eq_getElem B]
   exact I k _ (Array.getElem?_eq_getElem B) (fun e=>S (.inl e)) (fun e=>S (.inr e)),V⟩
  refine ⟨⟨rv,rfl⟩,⟨v2,T,fun g M=>(U g M).elim (u g) (fun e=> .inr (Nat.le_trans j.size e)),j.trans L (fun k B e=>e.elim (fun e=> .inr (.inl e)) (fun e=>(u k e).elim (fun e=> .inr (.inr e)) (fun e=>absurd B (by omega)))),m,q,p,I b _ c J n⟩,fun o ho=>I b o ho J n⟩
 ·rintro a W ⟨d,s,u,j,_⟩;rw [Lib.cell_of_heap (j.some_ A.blk F)];exact A.told
 ·rintro a W m h q p ⟨d,s,u,j,_⟩ c;have N:b < W.heap.size:=ah c;have R:aL b W (W.setChan b 3 h false q (p+1) false):=⟨by simp [World.setChan],fun k B=>by simp [World.setChan,Array.getElem?_setIfInBounds_ne (Ne.symm B)],⟨rfl,rfl,rfl⟩⟩
  have n:d.ownBlock≠some b:=fun e=>by
   obtain ⟨H,z,y⟩:=gB s.row e;rw [c] at y;cases y
  refine ⟨d,j6 s (aH.same R) (fun e=>J e.symm) (fun g M e=>n (by rw [←e];exact M)),u,j.trans (aH.same R) (fun _ _ e=> .inl e),h,q,p+1,Conc.heap_setChan W b 3 h false q (p+1) false N⟩
structure Cc (w W:World) (pp pb sb ch:Nat) (c:bX) (addr:Int):Prop where
 ses:bT W sb ch (iq pp pb ch (.slice none 0 0) (.pointer none) (dI c addr)) []
 sb:w.heap.size≤sb
 ch:w.heap.size≤ch
 below:Below w.heap.size w W
theorem Cc.first {w b:World} {f e:Nat} {c:bX} {a:Int} (d:Below (w.alloc (.chan 3 #[] false 0 0 false)).drew.heap.size (w.alloc (.chan 3 #[] false 0 0 false)).drew b):Cc w (b.alloc (.cells #[.pointer (some ⟨f,0,none⟩),.pointer (some ⟨e,0,none⟩),.slice none 0 0,.chan (some w.heap.size),.bool (c.nets.any (iZ a)),.bool false,.bool false,.bool false,.pointer none] 130)) f e b.heap.size w.heap.size c a:=by
 have j:(w.alloc (.chan 3 #[] false 0 0 false)).drew.heap[w.heap.size]? =some (.chan 3 #[] false 0 0 false):=heap_alloc_new w _;have g:Below b.heap.size b (b.alloc (.cells #[.pointer (some ⟨f,0,none⟩),.pointer (some ⟨e,0,none⟩),.slice none 0 0,.chan (some w.heap.size),.bool (c.nets.any (iZ a)),.bool false,.bool false,.bool false,.pointer none] 130)):=(Below.refl _ _).alloc (Nat.le_refl _) _;have i:w.heap.size+1≤b.heap.size:=by have:=d.size;simpa using this
 have h:Below w.heap.size w (w.alloc (.chan 3 #[] false 0 0 false)).drew:=((Below.refl _ _).alloc (Nat.le_refl _) _).drew;exact ⟨⟨heap_alloc_new b _,rfl,rfl,0,0,ae g (ae d j)⟩,by omega,Nat.le_refl _,(h.trans (d.mono (by simp))).trans (g.mono (by omega))⟩
theorem Cc.later {w a:World} {f e:Nat} {c:bX} {b:Int} (h:Below w.drew.heap.size w.drew a):Cc w ((a.alloc (.chan 3 #[] false 0 0 false)).alloc (.cells #[.pointer (some ⟨f,0,none⟩),.pointer (some ⟨e,0,none⟩),.slice none 0 0,.chan (some a.heap.size),.bool (c.nets.any (iZ b)),.bool false,.bool false,.bool false,.pointer none] 130)) f e (a.heap.size+1) a.heap.size c b:=by
 have k:(a.alloc (.chan 3 #[] false 0 0 false)).heap[a.heap.size]? =some (.chan 3 #[] false 0 0 false):=heap_alloc_new a _;have j:(a.alloc (.chan 3 #[] false 0 0 false)).heap.size=a.heap.size+1:=by simp
 have g:Below a.heap.size a (a.alloc (.chan 3 #[] false 0 0 false)):=(Below.refl _ _).alloc (Nat.le_refl _) _;obtain ⟨W,m⟩:∃W:World,a.alloc (.chan 3 #[] false 0 0 false)=W:=⟨_,rfl⟩;rw [m] at k j g ⊢;have i:Below W.heap.size W (W.alloc (.cells #[.pointer (some ⟨f,0,none⟩),.pointer (some ⟨e,0,none⟩),.slice none 0 0,.chan (some a.heap.size),.bool (c.nets.any (iZ b)),.bool false,.bool false,.bool false,.pointer none] 130)):=(Below.refl _ _).alloc (Nat.le_refl _) _;have d:w.heap.size≤a.heap.size:=h.size;have l:Below w.heap.size w w.drew:=(Below.refl _ _).drew;exact ⟨⟨by rw [←j];exact heap_alloc_new W _,rfl,rfl,0,0,ae i k⟩,by omega,d,((l.trans (h.mono (Nat.le_refl _))).trans (g.mono d)).trans (i.mono (by omega))⟩
def Ev (pp pb:Nat) (c:bX) (addr:Int) (w:World) (e:Ending) (w':World):Prop:=
 ∃sb ch,e= .returned (.tuple #[.pointer (some ⟨sb,0,none⟩),.string (bs (mX c))])∧bT w' sb ch (iq pp pb ch (.slice none 0 0) (.pointer none) (dI c addr)) []∧w.heap.size≤sb∧w.heap.size≤ch∧Below w.heap.size w w'
theorem EA {E:Nat→Prop} {d pb:Nat} {c:bX} {w:World} (he:gg E w d c) (h:Int):
  Calls Tryz.prog 37 #[.pointer (some ⟨d,0,none⟩),.pointer (some ⟨pb,0,none⟩),.int .i64 h] w (Ev d pb c h w):=by
 obtain ⟨vD,vN,vU,vW,I,_⟩:=he.set;have y0:w.cell? ⟨d,0,none⟩=some (.string c.host):=I.cell 0 (by decide);have y1:w.cell? ⟨d,1,none⟩=some vD:=I.cell 1 (by decide);have y2:w.cell? ⟨d,2,none⟩=some vN:=I.cell 2 (by decide);have y3:w.cell? ⟨d,3,none⟩=some vU:=I.cell 3 (by decide);have y4:w.cell? ⟨d,4,none⟩=some (.int .i64 c.most):=I.cell 4 (by decide);have y5:w.cell? ⟨d,5,none⟩=some (.int .i64 c.size):=I.cell 5 (by decide);have y6:w.cell? ⟨d,6,none⟩=some vW:=I.cell 6 (by decide);have y7:w.cell? ⟨d,7,none⟩=some (.int .i64 c.life):=I.cell 7 (by decide);have y8:w.cell? ⟨d,8,none⟩=some (.int .i64 c.room):=I.cell 8 (by decide);have u:∀(o:Obj) (j:Nat),(w.alloc o).cell? ⟨d,j,none⟩=w.cell? ⟨d,j,none⟩:=fun o j=>World.cell?_of_block (((Below.refl _ w).alloc (Nat.le_refl _) o).block d (he.lt d he.epp));have a0:∀o:Obj,(w.alloc o).cell? ⟨d,0,none⟩=some (.string c.host):=fun o=>(u o 0).trans y0;have a1:∀o:Obj,(w.alloc o).cell? ⟨d,1,none⟩=some (vD):=fun o=>(u o 1).trans y1;have a2:∀o:Obj,(w.alloc o).cell? ⟨d,2,none⟩=some (vN):=fun o=>(u o 2).trans y2;have a3:∀o:Obj,(w.alloc o).cell? ⟨d,3,none⟩=some (vU):=fun o=>(u o 3).trans y3;have a4:∀o:Obj,(w.alloc o).cell? ⟨d,4,none⟩=some (.int .i64 c.most):=fun o=>(u o 4).trans y4;have a5:∀o:Obj,(w.alloc o).cell? ⟨d,5,none⟩=some (.int .i64 c.size):=fun o=>(u o 5).trans y5;have a6:∀o:Obj,(w.alloc o).cell? ⟨d,6,none⟩=some (vW):=fun o=>(u o 6).trans y6;have a7:∀o:Obj,(w.alloc o).cell? ⟨d,7,none⟩=some (.int .i64 c.life):=fun o=>(u o 7).trans y7;have a8:∀o:Obj,(w.alloc o).cell? ⟨d,8,none⟩=some (.int .i64 c.room):=fun o=>(u o 8).trans y8;have b2:Hid (∀W:World,Below w.heap.size w W→Calls Tryz.prog 61 #[.agg #[.string c.host,vD,vN,vU,.int .i64 c.most,.int .i64 c.size,vW,.int .i64 c.life,.int .i64 c.room],.int .i64 h] W fun e w'=>e= .returned (.bool (c.nets.any (iZ h)))∧Below W.heap.size W w'):=Lib.hid (fun W hb=>AK c vD vN vU vW h W (I.rows.below hb) I.small.nets (fun x hx=>Hs I.may x hx));obtain ⟨i,hi,c0,c1,b5⟩:=info_parts uk;have b6:∀W:World,(Instr.makeChan 124 (.int .i64 3)).run Tryz.prog W= .ok (.chan (some W.heap.size)) (W.alloc (.chan 3 #[] false 0 0 false)):=fun W=>Conc.run_makeChan (n:=3) Tryz.underlying124 hi .i64 (by decide) (by rw [b5];decide);clear I u;have b0:d < w.heap.size:=he.lt d he.epp;have b7:=he.host.2;have J:Hid ((⟨#[50,50,48,32]⟩:ByteArray)++c.host=bs ([50,50,48,32]++cQ c)):=Lib.hid (cE [50,50,48,32] (cQ c)).symm;have b8:c.host.size=(cQ c).length:=by rw [←sT c,aG]
 go_enter Tryz.func37,Tryz.ntmps37;go_wp2_with fail
 go_region_law (first
  | (go_simp;go_at_call 61;refine (b2.out _ (by first | exact (Below.refl _ _).drew | exact ((Below.refl _ _).alloc (Nat.le_refl _) _).drew)).mono ?_;rintro e w1 ⟨rfl,a9⟩;dsimp only))
 all_goals
  have f:Hid (Cc w _ d pb _ _ c h):=Lib.hid (by first | exact Cc.first a9 | exact Cc.later a9);clear a9 b2
 ·
  obtain ⟨b,D⟩:∃W:World,w1.alloc (.cells #[.pointer (some ⟨d,0,none⟩),.pointer (some ⟨pb,0,none⟩),.slice none 0 0,.chan (some w.heap.size),.bool (c.nets.any (iZ h)),.bool false,.bool false,.bool false,.pointer none] 130)=W:=⟨_,rfl⟩;rw [D] at f ⊢;have a:=f.out.below;have T:=heap_alloc_new b (.cells #[.pointer none,.slice none 0 0] 133);have v:Below b.heap.size b (b.alloc (.cells #[.pointer none,.slice none 0 0] 133)):=(Below.refl _ _).alloc (Nat.le_refl _) _;obtain ⟨C,P⟩:∃W:World,b.alloc (.cells #[.pointer none,.slice none 0 0] 133)=W:=⟨_,rfl⟩;rw [P] at T v;have y3:C.cell? ⟨d,0,none⟩=some (.string c.host):=((a.trans (v.mono a.size)).cell (by exact b0)).trans y0;have s3:=f.out.ses.chg (aH.below v:aH (fun _=>False) b C) (fun e=>e) (fun e=>e);have l1:=ah f.out.ses.blk;have l2:_ < b.heap.size:=ah f.out.ses.chan.choose_spec.choose_spec;have HT:=Lib.hid (s3.tell (by simp) ([50,50,48,32]++cQ c) (by rw [List.length_append];simp;omega));have K:Hid (jE 0 C b.heap.size (.slice none 0 0) []):=Lib.hid ⟨⟨none,.inl rfl,T⟩,⟨rfl,.inl ⟨rfl,rfl⟩⟩,(by intro e;cases e)⟩;have L:=Lib.hid (a.trans (v.mono a.size));have p:b.heap.size≤C.heap.size:=v.size;have A:=Lib.hid l1;have r:=Lib.hid l2;clear a T v s3 l1 l2 D;go_wp2_with fail
  rw [J.out];refine HT.out.mono ?_;rintro e S ⟨rfl,X,m⟩;have U:jE 0 S b.heap.size (.slice none 0 0) []:=j6 K.out (aH.same m) (fun e=>by have:=r.out;omega) (by intro g e;cases e);have B:=Lib.hid (rk X U (by have:=A.out;omega) (by have:=r.out;omega) (by intro e;cases e) (by intro l Z;simp at Z;rw [Z];simp;omega) (by simp;omega));have q:=Lib.hid (L.out.trans (m.below f.out.ch));have b4:S.heap.size=C.heap.size:=m.1;clear X m U;go_wp2_with fail
  refine B.out.mono ?_;rintro e w5 ⟨rfl,v5,Y,t,H,F⟩;have R:w.heap.size≤b.heap.size:=f.out.below.size
  have V:=q.out.trans (F.toBelow (s:=w.heap.size) (fun k e=>by
   rcases e with e | e | e
   ·rw [e];exact f.out.ch
   ·rw [e];exact R
   ·cases e) q.out.size)
  have N:=Lib.hid (mi 0 b.heap.size v5 _ w5 t);have O:=Lib.hid H;have M:=Lib.hid Y;have y:=Lib.hid V;have b1:=Lib.hid t;clear Y t H F V B;go_wp2_with fail
  refine N.out.mono ?_;rintro e w6 ⟨rfl,G⟩;have z:=Lib.hid G;clear G;go_wp2_with fail
  go_ret2
  have Q:∀g,v5.ownBlock=some g→S.heap.size≤g:=fun g e=>(O.out g e).elim (fun e=>by cases e) id;refine ⟨_,_,rfl,M.out.chg z.out (fun e=>?_) (fun e=>?_),f.out.sb,f.out.ch,y.out.trans (z.out.toBelow (fun k e=>Nat.le_trans q.out.size (Q k e)) y.out.size)⟩
  ·have:=Q _ e;have:=A.out;have:=p;omega
  ·have:=Q _ e;have:=r.out;have:=p;omega
 ·
  obtain ⟨b,D⟩:∃W:World,w1.alloc (.cells #[.pointer (some ⟨d,0,none⟩),.pointer (some ⟨pb,0,none⟩),.slice none 0 0,.chan (some w.heap.size),.bool (c.nets.any (iZ h)),.bool false,.bool false,.bool false,.pointer none] 130)=W:=⟨_,rfl⟩;rw [D] at f ⊢;have a:=f.out.below;have T:=heap_alloc_new b (.cells #[.pointer none,.slice none 0 0] 133);have v:Below b.heap.size b (b.alloc (.cells #[.pointer none,.slice none 0 0] 133)):=(Below.refl _ _).alloc (Nat.le_refl _) _;obtain ⟨C,P⟩:∃W:World,b.alloc (.cells #[.pointer none,.slice none 0 0] 133)=W:=⟨_,rfl⟩;rw [P] at T v;have y3:C.cell? ⟨d,0,none⟩=some (.string c.host):=((a.trans (v.mono a.size)).cell (by exact b0)).trans y0;have s3:=f.out.ses.chg (aH.below v:aH (fun _=>False) b C) (fun e=>e) (fun e=>e);have l1:=ah f.out.ses.blk;have l2:_ < b.heap.size:=ah f.out.ses.chan.choose_spec.choose_spec;have HT:=Lib.hid (s3.tell (by simp) ([50,50,48,32]++cQ c) (by rw [List.length_append];simp;omega));have K:Hid (jE 0 C b.heap.size (.slice none 0 0) []):=Lib.hid ⟨⟨none,.inl rfl,T⟩,⟨rfl,.inl ⟨rfl,rfl⟩⟩,(by intro e;cases e)⟩;have L:=Lib.hid (a.trans (v.mono a.size));have p:b.heap.size≤C.heap.size:=v.size;have A:=Lib.hid l1;have r:=Lib.hid l2;clear a T v s3 l1 l2 D;go_wp2_with fail
  rw [J.out];refine HT.out.mono ?_;rintro e S ⟨rfl,X,m⟩;have U:jE 0 S b.heap.size (.slice none 0 0) []:=j6 K.out (aH.same m) (fun e=>by have:=r.out;omega) (by intro g e;cases e);have B:=Lib.hid (rk X U (by have:=A.out;omega) (by have:=r.out;omega) (by intro e;cases e) (by intro l Z;simp at Z;rw [Z];simp;omega) (by simp;omega));have q:=Lib.hid (L.out.trans (m.below f.out.ch));have b4:S.heap.size=C.heap.size:=m.1;clear X m U;go_wp2_with fail
  refine B.out.mono ?_;rintro e w5 ⟨rfl,v5,Y,t,H,F⟩;have R:w.heap.size≤b.heap.size:=f.out.below.size
  have V:=q.out.trans (F.toBelow (s:=w.heap.size) (fun k e=>by
   rcases e with e | e | e
   ·rw [e];exact f.out.ch
   ·rw [e];exact R
   ·cases e) q.out.size)
  have N:=Lib.hid (mi 0 b.heap.size v5 _ w5 t);have O:=Lib.hid H;have M:=Lib.hid Y;have y:=Lib.hid V;have b1:=Lib.hid t;clear Y t H F V B;go_wp2_with fail
  refine N.out.mono ?_;rintro e w6 ⟨rfl,G⟩;have z:=Lib.hid G;clear G;go_wp2_with fail
  go_ret2
  have Q:∀g,v5.ownBlock=some g→S.heap.size≤g:=fun g e=>(O.out g e).elim (fun e=>by cases e) id;refine ⟨_,_,rfl,M.out.chg z.out (fun e=>?_) (fun e=>?_),f.out.sb,f.out.ch,y.out.trans (z.out.toBelow (fun k e=>Nat.le_trans q.out.size (Q k e)) y.out.size)⟩
  ·have:=Q _ e;have:=A.out;have:=p;omega
  ·have:=Q _ e;have:=r.out;have:=p;omega
 ·
  obtain ⟨b,D⟩:∃W:World,(w1.alloc (.chan 3 #[] false 0 0 false)).alloc (.cells #[.pointer (some ⟨d,0,none⟩),.pointer (some ⟨pb,0,none⟩),.slice none 0 0,.chan (some w1.heap.size),.bool (c.nets.any (iZ h)),.bool false,.bool false,.bool false,.pointer none] 130)=W:=⟨_,rfl⟩;rw [D] at f ⊢;have a:=f.out.below;have T:=heap_alloc_new b (.cells #[.pointer none,.slice none 0 0] 133);have v:Below b.heap.size b (b.alloc (.cells #[.pointer none,.slice none 0 0] 133)):=(Below.refl _ _).alloc (Nat.le_refl _) _;obtain ⟨C,P⟩:∃W:World,b.alloc (.cells #[.pointer none,.slice none 0 0] 133)=W:=⟨_,rfl⟩;rw [P] at T v;have y3:C.cell? ⟨d,0,none⟩=some (.string c.host):=((a.trans (v.mono a.size)).cell (by exact b0)).trans y0;have s3:=f.out.ses.chg (aH.below v:aH (fun _=>False) b C) (fun e=>e) (fun e=>e);have l1:=ah f.out.ses.blk;have l2:_ < b.heap.size:=ah f.out.ses.chan.choose_spec.choose_spec;have HT:=Lib.hid (s3.tell (by simp) ([50,50,48,32]++cQ c) (by rw [List.length_append];simp;omega));have K:Hid (jE 0 C b.heap.size (.slice none 0 0) []):=Lib.hid ⟨⟨none,.inl rfl,T⟩,⟨rfl,.inl ⟨rfl,rfl⟩⟩,(by intro e;cases e)⟩;have L:=Lib.hid (a.trans (v.mono a.size));have p:b.heap.size≤C.heap.size:=v.size;have A:=Lib.hid l1;have r:=Lib.hid l2;clear a T v s3 l1 l2 D;go_wp2_with fail
  rw [J.out];refine HT.out.mono ?_;rintro e S ⟨rfl,X,m⟩;have U:jE 0 S b.heap.size (.slice none 0 0) []:=j6 K.out (aH.same m) (fun e=>by have:=r.out;omega) (by intro g e;cases e);have B:=Lib.hid (rk X U (by have:=A.out;omega) (by have:=r.out;omega) (by intro e;cases e) (by intro l Z;simp at Z;rw [Z];simp;omega) (by simp;omega));have q:=Lib.hid (L.out.trans (m.below f.out.ch));have b4:S.heap.size=C.heap.size:=m.1;clear X m U;go_wp2_with fail
  refine B.out.mono ?_;rintro e w5 ⟨rfl,v5,Y,t,H,F⟩;have R:w.heap.size≤b.heap.size:=f.out.below.size
  have V:=q.out.trans (F.toBelow (s:=w.heap.size) (fun k e=>by
   rcases e with e | e | e
   ·rw [e];exact f.out.ch
   ·rw [e];exact R
   ·cases e) q.out.size)
  have N:=Lib.hid (mi 0 b.heap.size v5 _ w5 t);have O:=Lib.hid H;have M:=Lib.hid Y;have y:=Lib.hid V;have b1:=Lib.hid t;clear Y t H F V B;go_wp2_with fail
  refine N.out.mono ?_;rintro e w6 ⟨rfl,G⟩;have z:=Lib.hid G;clear G;go_wp2_with fail
  go_ret2
  have Q:∀g,v5.ownBlock=some g→S.heap.size≤g:=fun g e=>(O.out g e).elim (fun e=>by cases e) id;refine ⟨_,_,rfl,M.out.chg z.out (fun e=>?_) (fun e=>?_),f.out.sb,f.out.ch,y.out.trans (z.out.toBelow (fun k e=>Nat.le_trans q.out.size (Q k e)) y.out.size)⟩
  ·have:=Q _ e;have:=A.out;have:=p;omega
  ·have:=Q _ e;have:=r.out;have:=p;omega
def yX (k:Nat):Prop:=k=0∨k=6∨k=2∨k=3
structure iR (w:World):Prop where
 len:∃n,w.cell? ⟨0,0,none⟩=some (.int .i64 n)
 pow:tw w
 utf:Lib.Utf8Tabs 2 3 w
theorem iR.lt {w:World} (h:iR w) {k:Nat} (a:yX k):k < w.heap.size:=by
 obtain ⟨n,b⟩:=h.len
 rcases a with rfl | rfl | rfl | rfl
 ·exact eI b
 ·exact h.pow.lt
 ·exact eI (h.utf.1 0 (by decide))
 ·exact eI (h.utf.2 0 (by decide)).1
theorem iR.chg {B:Nat→Prop} {w w':World} (h:iR w) (b:aH B w w') (a:∀k,yX k→¬B k):iR w':=by
 obtain ⟨n,d⟩:=h.len;have e:=h.lt (k:=0) (.inl rfl);refine ⟨⟨n,?_⟩,h.pow.chg b (a _ (.inr (.inl rfl))),B7 h.utf b (a _ (.inr (.inr (.inl rfl)))) (a _ (.inr (.inr (.inr rfl))))⟩;rw [←d];exact World.cell?_of_block (b.block _ e (a _ (.inl rfl)))
theorem iR.below {w w':World} (h:iR w) (a:Below w.heap.size w w'):iR w':=h.chg (aH.below a:aH (fun _=>False) w w') (fun _ _ e=>e)
structure dR [Kn] (E:Nat→Prop) (pp pb mb:Nat) (c:bX) (w:World) (q:Nat→Nat) (vr:Value) (S:bp) (recs:List UInt8) (vs:Value) (ps:List Value):Prop where
 set:∃vD vN vU vW,ko w pp c vD vN vU vW∧∀k,(vD.ownBlock=some k∨vN.ownBlock=some k∨vU.ownBlock=some k∨vW.ownBlock=some k)→E k∧k≠pp
 glo:iR w
 egl:∀k,yX k→E k
 gpp:¬yX pp
 epp:E pp
 lt:∀k,E k→k < w.heap.size
 blk:∃C:Array Value,w.heap[pp]? =some (.cells C 88 (0,0))∧C.size=12∧C[9]? =some (.pointer (some ⟨pb,0,none⟩))∧C[10]? =some vs∧C[11]? =some Kn.tk
 bag:fv w pb mb q vr S recs
 row:w.ownsRow 0 91 1 vs ps.length ps
 eb:∀k,E k→¬an w pb mb q vr S k
 sd:∀g,vs.ownBlock=some g→¬E g∧¬an w pb mb q vr S g
section
variable {E B:Nat→Prop} {pp pb mb:Nat} {c:bX} {w w':World} {q:Nat→Nat} {vr:Value} {S:bp} {recs:List UInt8} {vs:Value} {ps:List Value}
theorem dR.env [Kn] (h:dR E pp pb mb c w q vr S recs vs ps):gg E w pp c:=by
 obtain ⟨d,f,g,i,a,b⟩:=h.set;exact ⟨⟨d,f,g,i,a,fun k e=>(b k e).1⟩,h.epp,h.glo.len,h.egl _ (.inl rfl),h.glo.pow,h.egl _ (.inr (.inl rfl)),h.glo.utf,h.egl _ (.inr (.inr (.inl rfl))),h.egl _ (.inr (.inr (.inr rfl))),h.lt⟩
theorem ko.chg {f h i j:Value} (a:ko w pp c f h i j) (b:aH B w w') (d:∀k,(f.ownBlock=some k∨h.ownBlock=some k∨i.ownBlock=some k∨j.ownBlock=some k)→¬B k) (n:¬B pp):ko w' pp c f h i j:=by
 obtain ⟨D,l,m⟩:=a.blk;exact ⟨⟨D,b.some_ l n,m⟩,⟨a.rows.1.chg b (fun g e=>d g (.inl e)),a.rows.2.1.chg b (fun g e=>d g (.inr (.inl e))),a.rows.2.2.1.chg b (fun g e=>d g (.inr (.inr (.inl e)))),a.rows.2.2.2.chg b (fun g e=>d g (.inr (.inr (.inr e))))⟩,a.may⟩
theorem dR.chg [Kn] (h:dR E pp pb mb c w q vr S recs vs ps) (a:aH B w w') (b:∀k,E k→¬B k) (n:∀k,an w pb mb q vr S k→¬B k) (o:∀k,vs.ownBlock=some k→¬B k):dR E pp pb mb c w' q vr S recs vs ps∧∀k,an w' pb mb q vr S k→an w pb mb q vr S k:=by
 obtain ⟨p,r,s,t,j,f⟩:=h.set;obtain ⟨C,l,m⟩:=h.blk;obtain ⟨i,d⟩:=h.bag.chg a n;exact ⟨⟨⟨p,r,s,t,j.chg a (fun k e=>b k (f k e).1) (b pp h.epp),f⟩,h.glo.chg a (fun k e=>b k (h.egl k e)),h.egl,h.gpp,h.epp,fun k e=>Nat.lt_of_lt_of_le (h.lt k e) a.size,⟨C,a.some_ l (b pp h.epp),m⟩,i,bC h.row a o,fun k e x=>h.eb k e (d k x),fun g e=>⟨(h.sd g e).1,fun x=>(h.sd g e).2 (d g x)⟩⟩,d⟩
theorem dR.below [Kn] (h:dR E pp pb mb c w q vr S recs vs ps) (a:Below w.heap.size w w'):dR E pp pb mb c w' q vr S recs vs ps∧∀k,an w' pb mb q vr S k→an w pb mb q vr S k:=
 h.chg (aH.below a:aH (fun _=>False) w w') (fun _ _ e=>e) (fun _ _ e=>e) (fun _ _ e=>e)
theorem dR.cell9 [Kn] (h:dR E pp pb mb c w q vr S recs vs ps):w.cell? ⟨pp,9,none⟩=some (.pointer (some ⟨pb,0,none⟩)):=by
 obtain ⟨C,a,_,b,_⟩:=h.blk;rw [Lib.cell_of_heap a];exact b
theorem dR.cell10 [Kn] (h:dR E pp pb mb c w q vr S recs vs ps):w.cell? ⟨pp,10,none⟩=some vs:=by
 obtain ⟨C,a,_,_,b,_⟩:=h.blk;rw [Lib.cell_of_heap a];exact b
theorem dR.cell11 [Kn] (h:dR E pp pb mb c w q vr S recs vs ps):w.cell? ⟨pp,11,none⟩=some Kn.tk:=by
 obtain ⟨C,a,_,_,_,b⟩:=h.blk;rw [Lib.cell_of_heap a];exact b
theorem dR.froz [Kn] (h:dR E pp pb mb c w q vr S recs vs ps) (j:Nat):w.frozen? ⟨pp,j,none⟩=false:=by
 obtain ⟨C,a,_⟩:=h.blk;exact Lib.frozen_of_heap a j
theorem dR.slt [Kn] (h:dR E pp pb mb c w q vr S recs vs ps) {g:Nat} (a:vs.ownBlock=some g):g < w.heap.size:=(kD h.row a).2
end
theorem Aa [Kn] {pb mb:Nat} {q:Nat→Nat} {vr:Value} {S:bp} {recs:List UInt8} {w:World} (h:fv w pb mb q vr S recs):
  Calls Tryz.prog 41 #[.pointer (some ⟨pb,0,none⟩)] w fun e w'=>e= .returned (.string (bs recs))∧w=w':=by
 have b:w.cell? ⟨pb,0,none⟩=some vr:=by rw [Lib.cell_of_heap h.inn.bag];rfl
 have a:=h.row.string;clear h;go_enter Tryz.func41,Tryz.ntmps41;go_wp2_with fail
 go_ret;exact ⟨rfl,rfl⟩
theorem AR [Kn] {E:Nat→Prop} {pp pb mb:Nat} {c:bX} {w:World} {q:Nat→Nat} {vr:Value} {S:bp} {recs:List UInt8} {vs:Value} {ps:List Value} (h:dR E pp pb mb c w q vr S recs vs ps):
  Calls Tryz.prog 17 #[.pointer (some ⟨pp,0,none⟩)] w fun e w'=>e= .returned (.tuple #[.string (bs recs),.int .i64 0])∧w=w':=by
 have b:=h.cell9;have a:=Lib.hid (Aa h.bag);clear h;go_enter Tryz.func17,Tryz.ntmps17;go_wp2_with fail
 refine a.out.mono ?_;rintro e w' ⟨rfl,rfl⟩;go_wp2_with fail
 go_ret2
 exact ⟨rfl,rfl⟩
theorem yd [Kn] {E:Nat→Prop} {pp pb mb:Nat} {c:bX} {w:World} {q:Nat→Nat} {vr:Value} {S:bp} {recs:List UInt8} {vs:Value} {ps:List Value} (h:dR E pp pb mb c w q vr S recs vs ps) (b:S.Ok) (n:S.items.length≤1048576):
  Calls Tryz.prog 10 #[.pointer (some ⟨pp,0,none⟩)] w fun e w'=>∃v a,e= .returned (.tuple #[v,.int .i64 0])∧iT w.heap.size w' v a∧a.map (·.1)=gA S.items∧Below w.heap.size w w':=by
 have m:=h.cell9;have k:=Lib.hid (yC 0 pb mb q vr _ w h.bag.inn b (by omega));clear h b;go_enter Tryz.func10,Tryz.ntmps10;go_wp2_with fail
 refine k.out.mono ?_;rintro e w' ⟨v,a,rfl,g,f,d⟩;have l:=Lib.hid g;have j:=Lib.hid f;have i:=Lib.hid d;clear g f d;go_wp2_with fail
 go_ret2
 exact ⟨v,a,rfl,l.out,j.out,i.out⟩
structure gY [Kn] (E:Nat→Prop) (pp pb mb:Nat) (c:bX) (w:World) (q:Nat→Nat) (vr:Value) (S:bp) (recs:List UInt8) (vs:Value) (ps:List Value) (sb ch:Nat) (A:Nat→Prop) (vw:Value) (s:bG):Prop where
 post:dR E pp pb mb c w q vr S recs vs ps
 ses:cI w A pp pb sb ch vw [] s
 wrow:lF w vw s.wait
 ea:∀k,E k→¬A k
 ab:∀k,A k→¬an w pb mb q vr S k
 wd:∀g,vw.ownBlock=some g→¬E g∧¬A g∧¬an w pb mb q vr S g
 sa:∀g,vs.ownBlock=some g→¬A g∧vw.ownBlock≠some g
def kJ (w:World) (pb mb:Nat) (A:Nat→Prop) (q:Nat→Nat) (vr:Value) (S:bp) (vw vs:Value) (k:Nat):Prop:=wY w pb mb A q vr S vw k∨vs.ownBlock=some k
section
variable {E B:Nat→Prop} {pp pb mb:Nat} {c:bX} {w w':World} {q:Nat→Nat} {vr:Value} {S S':bp} {recs recs':List UInt8} {vs:Value} {ps:List Value} {sb ch:Nat} {A:Nat→Prop} {vw:Value} {s s':bG}
theorem gY.rest [Kn] (h:gY E pp pb mb c w q vr S recs vs ps sb ch A vw s):zS E pp pb mb sb ch c w A q vr S recs vw s:=⟨h.post.env,h.ses,h.wrow,h.post.bag,h.ea,h.post.eb,h.ab,h.wd⟩
theorem gY.wlt [Kn] (h:gY E pp pb mb c w q vr S recs vs ps sb ch A vw s) {g:Nat} (a:vw.ownBlock=some g):g < w.heap.size:=(kD h.wrow a).2
theorem gY.olt [Kn] (h:gY E pp pb mb c w q vr S recs vs ps sb ch A vw s) {k:Nat} (a:kJ w pb mb A q vr S vw vs k):k < w.heap.size:=by
 rcases a with (e | e | e) | e
 ·exact h.ses.lt k e
 ·exact an.lt h.post.bag e
 ·exact h.wlt e
 ·exact h.post.slt e
theorem gY.chg [Kn] (h:gY E pp pb mb c w q vr S recs vs ps sb ch A vw s) (b:aH B w w') (f:∀k,E k→¬B k) (a:∀k,kJ w pb mb A q vr S vw vs k→¬B k):gY E pp pb mb c w' q vr S recs vs ps sb ch A vw s∧∀k,kJ w' pb mb A q vr S vw vs k→kJ w pb mb A q vr S vw vs k:=by
 obtain ⟨i,d⟩:=h.post.chg b f (fun k e=>a k (.inl (.inr (.inl e)))) (fun k e=>a k (.inr e));refine ⟨⟨i,h.ses.chg b (fun k e=>a k (.inl (.inl e))),bC h.wrow b (fun g e=>a g (.inl (.inr (.inr e)))),h.ea,fun k e x=>h.ab k e (d k x),fun g e=>⟨(h.wd g e).1,(h.wd g e).2.1,fun x=>(h.wd g e).2.2 (d g x)⟩,h.sa⟩,fun k e=>?_⟩
 rcases e with (e | e | e) | e
 ·exact .inl (.inl e)
 ·exact .inl (.inr (.inl (d k e)))
 ·exact .inl (.inr (.inr e))
 ·exact .inr e
theorem gY.below [Kn] (h:gY E pp pb mb c w q vr S recs vs ps sb ch A vw s) (a:Below w.heap.size w w'):gY E pp pb mb c w' q vr S recs vs ps sb ch A vw s∧∀k,kJ w' pb mb A q vr S vw vs k→kJ w pb mb A q vr S vw vs k:=
 h.chg (aH.below a:aH (fun _=>False) w w') (fun _ _ e=>e) (fun _ _ e=>e)
theorem gY.heard [Kn] (h:gY E pp pb mb c w q vr S recs vs ps sb ch A vw s) (u:tq E A pp pb mb sb ch c q vr S vw w s' S' recs' w'):∃i j a b,gY E pp pb mb c w' j a S' recs' vs ps sb ch i b s'∧(∀k,kJ w' pb mb i j a S' b vs k→kJ w pb mb A q vr S vw vs k∨w.heap.size≤k)∧aH (kJ w pb mb A q vr S vw vs) w w':=by
 obtain ⟨i,j,a,b,d,o,f⟩:=u;obtain ⟨z,D,F,G,v,p⟩:=h.post.set;obtain ⟨C,r,t⟩:=h.post.blk
 have l:∀k,E k→¬wY w pb mb A q vr S vw k:=fun k e x=>by
  rcases x with x | x | x
  ·exact h.ea k e x
  ·exact h.post.eb k e x
  ·exact (h.wd k x).1 e
 have n:∀g,vs.ownBlock=some g→¬wY w pb mb A q vr S vw g:=fun g e x=>by
  rcases x with x | x | x
  ·exact (h.sa g e).1 x
  ·exact (h.post.sd g e).2 x
  ·exact (h.sa g e).2 x
 have m:∀g,vs.ownBlock=some g→¬wY w' pb mb i j a S' b g:=fun g e x=>(o g x).elim (n g e) (fun y=>by have:=h.post.slt e;omega);refine ⟨i,j,a,b,⟨⟨⟨z,D,F,G,v.chg f (fun k e=>l k (p k e).1) (l pp h.post.epp),p⟩,h.post.glo.chg f (fun k e=>l k (h.post.egl k e)),h.post.egl,h.post.gpp,h.post.epp,fun k e=>Nat.lt_of_lt_of_le (h.post.lt k e) f.size,⟨C,f.some_ r (l pp h.post.epp),t⟩,d.bag,bC h.post.row f n,d.eb,fun g e=>⟨(h.post.sd g e).1,fun x=>m g e (.inr (.inl x))⟩⟩,d.ses,d.row,d.ea,d.ab,d.wd,fun g e=>⟨fun x=>m g e (.inl x),fun x=>m g e (.inr (.inr x))⟩⟩,fun k e=>?_,f.mono (fun _ _ e=> .inl e)⟩
 rcases e with e | e
 ·exact (o k e).imp .inl id
 ·exact .inl (.inr e)
theorem dR.at [Kn] (h:dR E pp pb mb c w q vr S recs vs ps) {n:Nat} (j:n < ps.length):∃g b a,vs= .slice (some ⟨g,0,none⟩) ps.length b∧w.heap[g]? =some (.cells a 91 (0,0))∧a[n]? =some ps[n]:=by
 rcases h.row.2 with ⟨_,k⟩ | ⟨g,f,a,e,_,i,_,_,_,d⟩
 ·omega
 ·refine ⟨g,f,a,e,i,?_⟩;rw [←Array.getElem?_toList,←List.getElem?_take_of_lt (show n < ps.length * 1 by omega),d,List.getElem?_eq_getElem j]
theorem Ju {w:World} {g a n:Nat} {x:Value} {ps:List Value} (h:w.ownsRow 0 91 1 (.slice (some ⟨g,0,none⟩) ps.length a) ps.length ps) (_:n < ps.length):(w.setCell ⟨g,n,none⟩ x).ownsRow 0 91 1 (.slice (some ⟨g,0,none⟩) ps.length a) ps.length (ps.set n x):=by
 refine ⟨by simp,?_⟩
 rcases h.2 with ⟨e,_⟩ | ⟨o,m,b,e,f,i,j,k,l,d⟩
 ·cases e
 ·injection e with e1 _ e3;injection e1 with e1;injection e1 with e1;subst e1 e3;refine .inr ⟨g,a,b.setIfInBounds n x,rfl,f,heap_setCell_same w g n _ _ x i,j,k,by simp [l],?_⟩
  rw [Array.toList_setIfInBounds,List.take_set,d]
theorem dR.put [Kn] (h:dR E pp pb mb c w q vr S recs vs ps) {g f n:Nat} {x:Value} (j:vs= .slice (some ⟨g,0,none⟩) ps.length f) (t:n < ps.length):dR E pp pb mb c (w.setCell ⟨g,n,none⟩ x) q vr S recs vs (ps.set n x)∧(∀k,an (w.setCell ⟨g,n,none⟩ x) pb mb q vr S k→an w pb mb q vr S k)∧aH (fun k=>k=g) w (w.setCell ⟨g,n,none⟩ x):=by
 have a:aH (fun k=>k=g) w (w.setCell ⟨g,n,none⟩ x):=aH.same ((aL.refl _ _).setCell _);have b:vs.ownBlock=some g:=by rw [j];rfl
 have d:∀k,E k→¬k=g:=fun k e x=>(h.sd g b).1 (by rw [←x];exact e);obtain ⟨y,z,D,F,v,o⟩:=h.set;obtain ⟨C,p,r⟩:=h.blk;obtain ⟨u,l⟩:=h.bag.chg a (fun k e x=>(h.sd g b).2 (by rw [←x];exact e));have m:=h.row;rw [j] at m;have i:=Ju (x:=x) m t;refine ⟨⟨⟨y,z,D,F,v.chg a (fun k e=>d k (o k e).1) (d pp h.epp),o⟩,h.glo.chg a (fun k e=>d k (h.egl k e)),h.egl,h.gpp,h.epp,fun k e=>Nat.lt_of_lt_of_le (h.lt k e) a.size,⟨C,a.some_ p (d pp h.epp),r⟩,u,?_,fun k e x=>h.eb k e (l k x),fun g e=>⟨(h.sd g e).1,fun x=>(h.sd g e).2 (l g x)⟩⟩,l,a⟩;rw [j,List.length_set];exact i
theorem gY.put [Kn] (h:gY E pp pb mb c w q vr S recs vs ps sb ch A vw s) {g b n:Nat} {x:Value} (i:vs= .slice (some ⟨g,0,none⟩) ps.length b) (j:n < ps.length):gY E pp pb mb c (w.setCell ⟨g,n,none⟩ x) q vr S recs vs (ps.set n x) sb ch A vw s∧(∀k,kJ (w.setCell ⟨g,n,none⟩ x) pb mb A q vr S vw vs k→kJ w pb mb A q vr S vw vs k)∧aH (kJ w pb mb A q vr S vw vs) w (w.setCell ⟨g,n,none⟩ x):=by
 obtain ⟨l,f,d⟩:=h.post.put (x:=x) i j;have a:vs.ownBlock=some g:=by rw [i];rfl
 refine ⟨⟨l,h.ses.chg d (fun k e x=>(h.sa g a).1 (by rw [←x];exact e)),bC h.wrow d (fun k e x=>(h.sa g a).2 (by rw [←x];exact e)),h.ea,fun k e x=>h.ab k e (f k x),fun g e=>⟨(h.wd g e).1,(h.wd g e).2.1,fun x=>(h.wd g e).2.2 (f g x)⟩,h.sa⟩,fun k e=>?_,d.mono (fun k _ e=> .inr (by rw [e];exact a))⟩
 rcases e with (e | e | e) | e
 ·exact .inl (.inl e)
 ·exact .inl (.inr (.inl (f k e)))
 ·exact .inl (.inr (.inr e))
 ·exact .inr e
end
theorem wL:(Tryz.prog.info? 91).map (fun i=>(i.zero,i.size,i.bytes))=some (some (.pointer none),1,8):=by kernel_rfl
section
variable {E B:Nat→Prop} {pp pb mb:Nat} {c:bX} {w w1 w':World} {q:Nat→Nat} {vr:Value} {S S':bp} {recs recs':List UInt8} {vs vs':Value} {ps ps':List Value} {sb ch:Nat} {A:Nat→Prop} {vw:Value} {s s':bG}
theorem dR.conn [Kn] (h:dR E pp pb mb c w q vr S recs vs ps) (u:aH (fun k=>vs.ownBlock=some k) w w1) (i:w1.ownsRow 0 91 1 vs' ps'.length ps') (G:∀g,vs'.ownBlock=some g→vs.ownBlock=some g∨w.heap.size≤g):dR E pp pb mb c (w1.setCell ⟨pp,10,none⟩ vs') q vr S recs vs' ps'∧(∀k,an (w1.setCell ⟨pp,10,none⟩ vs') pb mb q vr S k→an w pb mb q vr S k)∧aH (fun k=>k=pp∨vs.ownBlock=some k) w (w1.setCell ⟨pp,10,none⟩ vs'):=by
 have r:aL pp w1 (w1.setCell ⟨pp,10,none⟩ vs'):=(aL.refl _ _).setCell _;have K:aH (fun k=>k=pp∨vs.ownBlock=some k) w (w1.setCell ⟨pp,10,none⟩ vs'):=(u.mono (fun _ _ e=> .inr e)).trans (aH.same r) (fun _ _ e=> .inl e);have F:=h.lt pp h.epp;have o:vs.ownBlock≠some pp:=fun e=>(h.sd pp e).1 h.epp;obtain ⟨L,M,N,O,d,a⟩:=h.set;obtain ⟨D,I,J⟩:=d.blk;obtain ⟨C,f,v,y,P,z⟩:=h.blk;have l:=u.some_ f o;have t:=heap_setCell_same w1 pp 10 _ _ vs' l;have m:D=C:=by rw [I] at f;injection f with f;injection f
 subst m;have j:∀k,E k→k≠pp→¬(k=pp∨vs.ownBlock=some k):=fun k e n x=>x.elim n (fun x=>(h.sd k x).1 e);obtain ⟨H,p⟩:=h.bag.chg K (fun k e x=>x.elim (fun x=>h.eb pp h.epp (by rw [←x];exact e)) (fun x=>(h.sd k x).2 e));have b:∀g,vs'.ownBlock=some g→¬E g∧¬an w pb mb q vr S g:=fun g e=>(G g e).elim (h.sd g) (fun e=>⟨fun x=>by have:=h.lt g x;omega,fun x=>by have:=an.lt h.bag x;omega⟩);refine ⟨⟨⟨L,M,N,O,⟨⟨_,t,?_⟩,⟨d.rows.1.chg K (fun g e=>j g (a g (.inl e)).1 (a g (.inl e)).2),d.rows.2.1.chg K (fun g e=>j g (a g (.inr (.inl e))).1 (a g (.inr (.inl e))).2),d.rows.2.2.1.chg K (fun g e=>j g (a g (.inr (.inr (.inl e)))).1 (a g (.inr (.inr (.inl e)))).2),d.rows.2.2.2.chg K (fun g e=>j g (a g (.inr (.inr (.inr e)))).1 (a g (.inr (.inr (.inr e)))).2)⟩,d.may⟩,a⟩,h.glo.chg K (fun k e=>j k (h.egl k e) (fun x=>h.gpp (by rw [←x];exact e))),h.egl,h.gpp,h.epp,fun k e=>Nat.lt_of_lt_of_le (h.lt k e) K.size,⟨_,t,by simpa using v,by rw [Array.getElem?_setIfInBounds_ne (by decide)];exact y,by rw [Array.getElem?_setIfInBounds_self_of_lt (by omega)],by rw [Array.getElem?_setIfInBounds_ne (by decide)];exact z⟩,H,bC i (aH.same r) (fun g e x=>(b g e).1 (by rw [x];exact h.epp)),fun k e x=>h.eb k e (p k x),fun g e=>⟨(b g e).1,fun x=>(b g e).2 (p g x)⟩⟩,p,K⟩
 rw [Array.toList_setIfInBounds,List.take_set_of_le (by decide)];exact J
def Gf [Kn] (E:Nat→Prop) (pp pb mb:Nat) (c:bX) (w:World) (q:Nat→Nat) (vr:Value) (S:bp) (recs:List UInt8) (vs:Value) (ps:List Value) (addr:Int) (w':World):Prop:=
 ∃sb ch vs',gY E pp pb mb c w' q vr S recs vs' (ps++[.pointer (some ⟨sb,0,none⟩)]) sb ch (fun k=>k=sb∨k=ch) (.slice none 0 0) (dI c addr)∧w.heap.size≤sb∧w.heap.size≤ch∧(∀g,vs'.ownBlock=some g→vs.ownBlock=some g∨w.heap.size≤g)∧(∀k,an w' pb mb q vr S k→an w pb mb q vr S k)∧aH (fun k=>k=pp∨vs.ownBlock=some k) w w'
theorem An [Kn] (h:dR E pp pb mb c w q vr S recs vs ps) (a:Int) (h0:0≤a) (h1:a≤4294967295) (hl:ps.length < 100):
  Calls Tryz.prog 13 #[.pointer (some ⟨pp,0,none⟩),.int .i64 a] w fun e w'=>e= .returned (.tuple #[.int .i64 (ps.length:Int),.string (bs (mX c)),.int .i64 0])∧Gf E pp pb mb c w q vr S recs vs ps a w':=by
 have Y:=h.cell10;have c9:=h.cell9;have HB:=Lib.hid (EA (pb:=pb) (w:=w.drew) (h.env.below ((Below.refl _ _).drew)) a);have n:=Lib.hid h;obtain ⟨M,N,Z⟩:=aE (aF h.row);rw [Z] at Y;have d:=Lib.hid Z;have n0:¬a < 0:=by omega
 have n1:¬(4294967295:Int) < a:=by omega
 have n2:¬((ps.length:Int)=100):=by omega
 clear h Z;go_enter Tryz.func13,Tryz.ntmps13;go_wp2_with fail
 go_region_law (first
  | (go_simp;go_at_call 37;refine HB.out.mono ?_;rintro e w1 ⟨sb,ch,rfl,hS,m,l,F⟩;have W:=Lib.hid hS;have Q:=Lib.hid F;have X:=Lib.hid m;have R:=Lib.hid l;clear hS m l F;dsimp only))
 all_goals
  have O:Below w.heap.size w w1:=((Below.refl _ w).drew).trans (Q.out.mono (Nat.le_refl _));have b:=(n.out.below O).1;have p:=b.cell10;rw [d.out] at p;have a2:∀o:Obj,(w1.alloc o).cell? ⟨pp,10,none⟩=some (.slice M ps.length N):=fun o=>(World.cell?_of_block (((Below.refl _ w1).alloc (Nat.le_refl _) o).block pp (b.lt pp b.epp))).trans p;obtain ⟨i,hi,J,u,K⟩:=info_parts wL;have f:=b.row;rw [d.out] at f;obtain ⟨g,j,D,I,H,L,O2⟩:=pv (P:=Tryz.prog) Tryz.underlying85 hi J u K rfl w1 (w1.alloc (.cells #[.pointer (some ⟨sb,0,none⟩)] 91)) (.slice M ps.length N) (.pointer (some ⟨sb,0,none⟩)) ps.length ps f rfl ((Below.refl _ _).alloc (Nat.le_refl _) _) (heap_alloc_new w1 _) (by unfold maxLen;omega) (by omega);have V:=Lib.hid I;have T:=Lib.hid H;have z:=Lib.hid L;have U:=Lib.hid O2;have C:=L.some_ b.blk.choose_spec.1 (fun e=>(b.sd pp (by rw [d.out];exact e)).1 b.epp)
  have a4:D.cell? ⟨pp,10,none⟩=some (.slice M ps.length N):=by
   rw [←p];exact World.cell?_of_block (L.block pp (b.lt pp b.epp) (fun e=>(b.sd pp (by rw [d.out];exact e)).1 b.epp))
  have a5:=Lib.frozen_of_heap C 10;have a3:=Lib.hid b;have y:=Lib.hid O;clear b O f I H L O2 C hi J u K
  go_wp2_with (first
   | (at_builtin;refine bB rfl _ _ 85 rfl _ _ (.slice (some ⟨g,0,none⟩) (ps.length+1) j) D rfl rfl V.out ?_)
   | fail)
  refine bodyPost_ret (v:= .tuple #[.int .i64 (ps.length:Int),.string (bs (mX c)),.int .i64 0]) (by simp [results,Tryz.results13,go_sem]) rfl ⟨rfl,?_⟩;have t:∀k,(Value.slice M ps.length N).ownBlock=some k→vs.ownBlock=some k:=fun k e=>by rw [d.out];exact e
  have Kw:aH (fun k=>vs.ownBlock=some k) w D:=(aH.below y.out).trans z.out (fun k _ e=>t k e);have G:(ps++[Value.pointer (some ⟨sb,0,none⟩)]).length=ps.length+1:=by simp
  have u:w.heap.size≤w1.heap.size:=y.out.size;have m:w.heap.size≤sb:=X.out;have l:w.heap.size≤ch:=R.out;have a0:vs.ownBlock=some g∨w1.heap.size≤g:=U.out.imp (t g) id
  have r:∀k,(Value.slice (some ⟨g,0,none⟩) (ps.length+1) j).ownBlock=some k→vs.ownBlock=some k∨w1.heap.size≤k:=fun k e=>by
   injection e with e;have e:g=k:=e;rw [←e];exact a0
  obtain ⟨p1,p2,p3⟩:=n.out.conn (vs':= .slice (some ⟨g,0,none⟩) (ps.length+1) j) (ps':=ps++[Value.pointer (some ⟨sb,0,none⟩)]) Kw (by rw [G];exact T.out) (fun k e=>(r k e).imp id (fun e=>by omega));have a1:pp < w.heap.size:=n.out.lt pp n.out.epp;have K3:aH (fun k=>k < w.heap.size) w1 (D.setCell ⟨pp,10,none⟩ (.slice (some ⟨g,0,none⟩) (ps.length+1) j)):=(z.out.mono (fun k _ e=>n.out.slt (t k e))).trans (aH.same ((aL.refl pp D).setCell _)) (fun k _ e=>by rw [e];exact a1);have l1:sb < w1.heap.size:=ah W.out.blk;have l2:ch < w1.heap.size:=ah W.out.chan.choose_spec.choose_spec;refine ⟨sb,ch,_,⟨p1,⟨⟨.pointer none,W.out.chg K3 (by omega) (by omega),rfl⟩,.inl rfl,.inr rfl,fun k e=>?_⟩,World.ownsRow_nil _ _ _ _,fun k e x=>?_,fun k e x=>?_,(by intro g e;cases e),fun k e=>⟨fun x=>?_,(by intro x;cases x)⟩⟩,m,l,fun k e=>(r k e).imp id (fun e=>by omega),p2,p3⟩
  ·have:=K3.size
   rcases e with e | e <;> omega
  ·have:=n.out.lt k e
   rcases x with x | x <;> omega
  ·have:=an.lt n.out.bag (p2 k x)
   rcases e with e | e <;> omega
  ·have:k < w.heap.size∨w1.heap.size≤k:=(r k e).imp (fun e=>n.out.slt e) id
   rcases x with x | x <;> omega
end
structure eH where
 sb:Nat
 ch:Nat
 A:Nat→Prop
 vw:Value
 s:bG
def eH.own (x:eH) (k:Nat):Prop:=x.A k∨x.vw.ownBlock=some k
def fC:Option eH→Value
 | none=> .pointer none
 | some x=> .pointer (some ⟨x.sb,0,none⟩)
structure rp (E:Nat→Prop) (pp pb mb:Nat) (c:bX) (w:World) (q:Nat→Nat) (vr:Value) (S:bp) (recs:List UInt8) (vs:Value) (x:eH):Prop where
 ses:cI w x.A pp pb x.sb x.ch x.vw [] x.s
 row:lF w x.vw x.s.wait
 inv:gM c x.s S recs
 fe:∀k,x.own k→¬E k
 fb:∀k,x.own k→¬an w pb mb q vr S k
 fs:∀k,x.own k→vs.ownBlock≠some k
 fw:∀k,x.vw.ownBlock=some k→¬x.A k
structure bQ [Kn] (E:Nat→Prop) (pp pb mb:Nat) (c:bX) (w:World) (q:Nat→Nat) (vr:Value) (S:bp) (recs:List UInt8) (vs:Value) (l:List (Option eH)):Prop where
 post:dR E pp pb mb c w q vr S recs vs (l.map fC)
 ok:∀(n:Nat) (x:eH),l[n]? =some (some x)→rp E pp pb mb c w q vr S recs vs x
 apart:∀(n m:Nat) (x y:eH),n≠m→l[n]? =some (some x)→l[m]? =some (some y)→∀k,x.own k→¬y.own k
 len:l.length≤100
 keep:S.time≤1000000000∧zP S recs∧S.Ok
def ee (w:World) (pb mb:Nat) (q:Nat→Nat) (vr:Value) (S:bp) (vs:Value) (l:List (Option eH)) (k:Nat):Prop:=an w pb mb q vr S k∨vs.ownBlock=some k∨∃(n:Nat) (x:eH),l[n]? =some (some x)∧x.own k
section
variable {E B:Nat→Prop} {pp pb mb:Nat} {c:bX} {w w':World} {q:Nat→Nat} {vr:Value} {S:bp} {recs:List UInt8} {vs:Value} {l:List (Option eH)} {x:eH}
theorem rp.chg (h:rp E pp pb mb c w q vr S recs vs x) (b:aH B w w') (a:∀k,x.own k→¬B k) (d:∀k,an w' pb mb q vr S k→an w pb mb q vr S k):rp E pp pb mb c w' q vr S recs vs x:=
 ⟨h.ses.chg b (fun k e=>a k (.inl e)),bC h.row b (fun k e=>a k (.inr e)),h.inv,h.fe,fun k e y=>h.fb k e (d k y),h.fs,h.fw⟩
theorem rp.lt (h:rp E pp pb mb c w q vr S recs vs x) {k:Nat} (e:x.own k):k < w.heap.size:=e.elim (h.ses.lt k) (fun e=>(kD h.row e).2)
theorem bQ.olt [Kn] (h:bQ E pp pb mb c w q vr S recs vs l) {k:Nat} (d:ee w pb mb q vr S vs l k):k < w.heap.size:=by
 rcases d with e | e | ⟨n,x,a,b⟩
 ·exact an.lt h.post.bag e
 ·exact h.post.slt e
 ·exact (h.ok n x a).lt b
theorem bQ.eo [Kn] (h:bQ E pp pb mb c w q vr S recs vs l) {k:Nat} (e:E k):¬ee w pb mb q vr S vs l k:=fun x=>by
 rcases x with x | x | ⟨n,y,a,b⟩
 ·exact h.post.eb k e x
 ·exact (h.post.sd k x).1 e
 ·exact (h.ok n y a).fe k b e
theorem bQ.chg [Kn] (h:bQ E pp pb mb c w q vr S recs vs l) (b:aH B w w') (f:∀k,E k→¬B k) (a:∀k,ee w pb mb q vr S vs l k→¬B k):bQ E pp pb mb c w' q vr S recs vs l∧∀k,ee w' pb mb q vr S vs l k→ee w pb mb q vr S vs l k:=by
 obtain ⟨g,d⟩:=h.post.chg b f (fun k e=>a k (.inl e)) (fun k e=>a k (.inr (.inl e)));exact ⟨⟨g,fun n x e=>(h.ok n x e).chg b (fun k y=>a k (.inr (.inr ⟨n,x,e,y⟩))) d,h.apart,h.len,h.keep⟩,fun k e=>e.imp (d k) id⟩
theorem bQ.below [Kn] (h:bQ E pp pb mb c w q vr S recs vs l) (a:Below w.heap.size w w'):bQ E pp pb mb c w' q vr S recs vs l∧∀k,ee w' pb mb q vr S vs l k→ee w pb mb q vr S vs l k:=
 h.chg (aH.below a:aH (fun _=>False) w w') (fun _ _ e=>e) (fun _ _ e=>e)
theorem bQ.one [Kn] (h:bQ E pp pb mb c w q vr S recs vs l) {n:Nat} (a:l[n]? =some (some x)):gY E pp pb mb c w q vr S recs vs (l.map fC) x.sb x.ch x.A x.vw x.s:=by
 have o:=h.ok n x a;exact ⟨h.post,o.ses,o.row,fun k e y=>o.fe k (.inl y) e,fun k e y=>o.fb k (.inl e) y,fun g e=>⟨o.fe g (.inr e),o.fw g e,o.fb g (.inr e)⟩,fun g e=>⟨fun y=>o.fs g (.inl y) e,fun y=>o.fs g (.inr y) e⟩⟩
theorem En {l:List (Option eH)} (n:Nat) (v:Option eH):(l.set n v).map fC=(l.map fC).set n (fC v):=by rw [List.map_set]
theorem qY {l:List (Option eH)} {n m:Nat} {v:Option eH} {y:eH} (h:(l.set n v)[m]? =some (some y)):(m=n∧v=some y)∨(m≠n∧l[m]? =some (some y)):=by
 by_cases e:n=m
 ·subst e
  by_cases a:n < l.length
  ·rw [List.getElem?_set_self a] at h;exact .inl ⟨rfl,by injection h⟩
  ·rw [List.getElem?_eq_none (by simp;omega)] at h
   cases h
 ·rw [List.getElem?_set_ne e] at h;exact .inr ⟨Ne.symm e,h⟩
theorem bQ.heard [Kn] {t:bp} {d:List UInt8} {D:Nat→Prop} {H:Nat→Nat} {g i:Value} {L:bG} (h:bQ E pp pb mb c w q vr S recs vs l) {n:Nat} (K:l[n]? =some (some x)) (u:gM c L t d) {v:Option eH} (a:v=some ⟨x.sb,x.ch,D,i,L⟩∨v=none) (p:gY E pp pb mb c w' H g t d vs ((l.map fC).set n (fC v)) x.sb x.ch D i L) (Q:∀k,kJ w' pb mb D H g t i vs k→kJ w pb mb x.A q vr S x.vw vs k∨w.heap.size≤k) (P:aH (kJ w pb mb x.A q vr S x.vw vs) w w'):bQ E pp pb mb c w' H g t d vs (l.set n v)∧(∀k,ee w' pb mb H g t vs (l.set n v) k→ee w pb mb q vr S vs l k∨w.heap.size≤k)∧aH (ee w pb mb q vr S vs l) w w':=by
 have Y:=h.ok n x K
 have A:∀(m:Nat) (y:eH),m≠n→l[m]? =some (some y)→∀k,y.own k→¬kJ w pb mb x.A q vr S x.vw vs k:=fun m y s b k e z=>by
  have r:=h.ok m y b
  rcases z with (z | z | z) | z
  ·exact h.apart m n y x s b K k e (.inl z)
  ·exact r.fb k e z
  ·exact h.apart m n y x s b K k e (.inr z)
  ·exact r.fs k e z
 have j:∀(m:Nat) (y:eH),m≠n→l[m]? =some (some y)→∀k,y.own k→¬kJ w' pb mb D H g t i vs k:=fun m y s b k e z=>(Q k z).elim (A m y s b k e) (fun z=>by have:=(h.ok m y b).lt e;omega);have o:∀k,(eH.mk x.sb x.ch D i L).own k→kJ w' pb mb D H g t i vs k:=fun k e=>e.elim (fun e=> .inl (.inl e)) (fun e=> .inl (.inr (.inr e)))
 have C:∀k,kJ w pb mb x.A q vr S x.vw vs k→ee w pb mb q vr S vs l k:=fun k e=>by
  rcases e with (e | e | e) | e
  ·exact .inr (.inr ⟨n,x,K,.inl e⟩)
  ·exact .inl e
  ·exact .inr (.inr ⟨n,x,K,.inr e⟩)
  ·exact .inr (.inl e)
 refine ⟨⟨by rw [En];exact p.post,fun m y b=>?_,fun T U V W J X R k N O=>?_,by rw [List.length_set];exact h.len,⟨u.time,u.len,u.recs⟩⟩,fun k e=>?_,P.mono (fun k _ e=>C k e)⟩
 ·rcases qY b with ⟨_,e⟩ | ⟨s,b⟩
  ·rcases a with a | a
   ·rw [a] at e;injection e with e;subst e;exact ⟨p.ses,p.wrow,u,fun k e y=>e.elim (fun e=>p.ea k y e) (fun e=>(p.wd k e).1 y),fun k e y=>e.elim (fun e=>p.ab k e y) (fun e=>(p.wd k e).2.2 y),fun k e y=>e.elim (fun e=>(p.sa k y).1 e) (fun e=>(p.sa k y).2 e),fun k e=>(p.wd k e).2.1⟩
   ·rw [a] at e;cases e
  ·have r:=h.ok m y b;exact ⟨r.ses.chg P (fun k e=>A m y s b k (.inl e)),bC r.row P (fun k e=>A m y s b k (.inr e)),⟨r.inv.tx,u.time,u.len,u.recs,r.inv.wait⟩,r.fe,fun k e z=>j m y s b k e (.inl (.inr (.inl z))),r.fs,r.fw⟩
 ·rcases qY X with ⟨M,F⟩ | ⟨M,g1⟩
  ·rcases qY R with ⟨I,_⟩ | ⟨I,g2⟩
   ·exact J (M.trans I.symm)
   ·rcases a with a | a
    ·rw [a] at F;injection F with F;subst F;exact j U W I g2 k O (o k N)
    ·rw [a] at F;cases F
  ·rcases qY R with ⟨I,G⟩ | ⟨I,g2⟩
   ·rcases a with a | a
    ·rw [a] at G;injection G with G;subst G;exact j T V M g1 k N (o k O)
    ·rw [a] at G;cases G
   ·exact h.apart T U V W J g1 g2 k N O
 ·rcases e with e | e | ⟨m,y,b,e⟩
  ·exact (Q k (.inl (.inr (.inl e)))).imp (C k) id
  ·exact .inl (.inr (.inl e))
  ·rcases qY b with ⟨_,f⟩ | ⟨s,b⟩
   ·rcases a with a | a
    ·rw [a] at f;injection f with f;subst f;exact (Q k (o k e)).imp (C k) id
    ·rw [a] at f;cases f
   ·exact .inl (.inr (.inr ⟨m,y,b,e⟩))
end
section
variable {E B:Nat→Prop} {pp pb mb:Nat} {c:bX} {w w':World} {q q':Nat→Nat} {vr vr':Value} {S S':bp} {recs recs':List UInt8} {vs:Value} {l:List (Option eH)}
theorem bQ.bagged [K:Kn] {D':Nat→Int×Int} {n':Nat} (h:bQ E pp pb mb c w q vr S recs vs l) (D:@fv (Kn.mk D' n' K.tk) w' pb mb q' vr' S' recs') (a:aH B w w') (f:∀k,E k→¬B k) (A:∀k,vs.ownBlock=some k→¬B k) (i:∀(n:Nat) (x:eH),l[n]? =some (some x)→∀k,x.own k→¬B k) (j:∀k,an w' pb mb q' vr' S' k→an w pb mb q vr S k∨w.heap.size≤k) (d:oK (S',recs')):
  @bQ (Kn.mk D' n' K.tk) E pp pb mb c w' q' vr' S' recs' vs l∧∀k,ee w' pb mb q' vr' S' vs l k→ee w pb mb q vr S vs l k∨w.heap.size≤k:=by
 obtain ⟨G,H,I,J,F,m⟩:=h.post.set;obtain ⟨C,p,r,s,t,u⟩:=h.post.blk;have b:∀k,k < w.heap.size→¬an w pb mb q vr S k→¬an w' pb mb q' vr' S' k:=fun k L v z=>(j k z).elim v (fun e=>by omega);refine ⟨@bQ.mk (Kn.mk D' n' K.tk) _ _ _ _ _ _ _ _ _ _ _ _ (@dR.mk (Kn.mk D' n' K.tk) _ _ _ _ _ _ _ _ _ _ _ _ ⟨G,H,I,J,F.chg a (fun k e=>f k (m k e).1) (f pp h.post.epp),m⟩ (h.post.glo.chg a (fun k e=>f k (h.post.egl k e))) h.post.egl h.post.gpp h.post.epp (fun k e=>Nat.lt_of_lt_of_le (h.post.lt k e) a.size) ⟨C,a.some_ p (f pp h.post.epp),r,s,t,u⟩ D (bC h.post.row a A) (fun k e=>b k (h.post.lt k e) (h.post.eb k e)) (fun g e=>⟨(h.post.sd g e).1,b g (h.post.slt e) (h.post.sd g e).2⟩)) (fun n x e=>?_) h.apart h.len ⟨d.time,d.led,d.ok⟩,fun k e=>?_⟩
 ·have o:=h.ok n x e;exact rp.mk (o.ses.chg a (fun k y=>i n x e k (.inl y))) (bC o.row a (fun k y=>i n x e k (.inr y))) ⟨o.inv.tx,d.time,d.led,d.ok,o.inv.wait⟩ o.fe (fun k y=>b k (o.lt y) (o.fb k y)) o.fs o.fw
 ·rcases e with e | e | e
  ·exact (j k e).imp .inl id
  ·exact .inl (.inr (.inl e))
  ·exact .inl (.inr (.inr e))
theorem bQ.sok [Kn] (h:bQ E pp pb mb c w q vr S recs vs l):oK (S,recs):=⟨h.keep.2.2,h.keep.2.1,h.keep.1⟩
end
open Go.ChangeMaps (setBlock)
theorem Ic (l:List (Nat×List UInt8)):∀u∈aR l,u.oneCell'=true:=by
 intro u a;unfold aR at a;obtain ⟨x,_,b⟩:=List.mem_flatMap.1 a;simp only [List.mem_cons,List.not_mem_nil,or_false] at b
 rcases b with rfl | rfl <;> rfl
theorem Cs (l:List (Nat×List UInt8)) (v:Value) (w:World) (h:bg w v l.length 2 (aR l)) (J:l.length≤255):
  Calls Tryz.prog 82 #[v] w fun e A=>∃a c,e= .returned (.slice a l.length c)∧A.ownsRow w.heap.size 162 2 (.slice a l.length c) l.length (aR l)∧Below w.heap.size w A:=by
 obtain ⟨a,f,G⟩:=aE h;subst G
 cases a with
 | none=>
  have i:l.length=0:=by
   rcases h.2 with ⟨i,_⟩ | ⟨b,H,r,e,_⟩
   ·exact i
   ·cases e
  have m:l=[]:=List.length_eq_zero_iff.1 i;subst m;clear h;have I:=fun (w:World) (a:Option Addr) (n c o d:Nat)=>Lib.run_eql_slice_nil (P:=Tryz.prog) w 102 _ a n c o d Tryz.underlying102;go_enter Tryz.func82,Tryz.ntmps82;go_wp2_with fail
  go_ret;exact ⟨none,0,rfl,World.ownsRow_nil _ _ _ _,Below.refl _ _⟩
 | some a=>
  have z:(w.alloc (.cells #[] 162)).heap[w.heap.size]? =some (.cells #[] 162 (0,0)):=heap_alloc_new w _;obtain ⟨g,F,p,y,x,t,j⟩:=kr (P:=Tryz.prog) (w.alloc (.cells #[] 162)) 102 102 162 (.agg #[.int .i64 0,.string ⟨#[]⟩]) 2 24 Tryz.underlying102 lR rfl (by decide) w.heap.size z (.slice (some a) l.length f) l.length (aR l) (h.below ((Below.refl _ _).alloc (Nat.le_refl _) _)) (Ic l) (by unfold maxLen;omega) (by omega);have s:Below w.heap.size w p:=((Below.refl w.heap.size w).alloc (Nat.le_refl _) _).grown t (by simp) (fun k u=>by injection u with u;omega);have E:=Lib.hid y;have C:=Lib.hid x;have B:=Lib.hid s;clear y x s t j z h;have I:=fun (w:World) (a:Option Addr) (n c o d:Nat)=>Lib.run_eql_slice_nil (P:=Tryz.prog) w 102 _ a n c o d Tryz.underlying102;go_enter Tryz.func82,Tryz.ntmps82
  go_wp2_with (first
   | (at_builtin;refine bB rfl _ _ 102 rfl _ _ (.slice (some ⟨g,0,none⟩) l.length F) p rfl rfl E.out ?_)
   | fail)
  go_ret;exact ⟨_,_,rfl,C.out,B.out⟩
structure D5 (w W:World) (mb:Nat) (q:Nat→Nat) (S:bp) (D:Nat→Int×Int) (seen:Array Nat) (v:Value) (L:List Nat):Prop where
 below:Below w.heap.size w W
 big:w.heap.size+2≤W.heap.size
 out:W.heap[w.heap.size]? =some (.cells #[.int .i64 0,.string ⟨#[]⟩,.slice none 0 0,.string ⟨#[]⟩] 104 (0,0))
 it:W.heap[w.heap.size+1]? =some (.mapIter (some mb) S.items.length seen S.items.length)
 row:W.ownsRow 0 3 1 v L.length ((iK L).map fun (i:Int)=> .int .i64 i)
 own:∀k,v.ownBlock=some k→w.heap.size+2≤k
 mem:∀i∈L,i∈S.live∧(D i).1≤S.time
 all:∀i∈S.live,seen.contains i=true→(D i).1≤S.time→i∈L
 cnt:L.length+(Go.leftOf (cO q S.live) seen).size≤S.live.length
section
variable {w W W':World} {mb:Nat} {q:Nat→Nat} {S:bp} {D:Nat→Int×Int} {seen:Array Nat} {v v':Value} {L:List Nat}
theorem D5.keep (h:D5 w W mb q S D seen v L) (a:Below W.heap.size W W'):D5 w W' mb q S D seen v L:=
 ⟨h.below.trans (a.mono (by have:=h.big;omega)),Nat.le_trans h.big a.size,ae a h.out,ae a h.it,ep h.row fun _ _ e _=>ae a e,h.own,h.mem,h.all,h.cnt⟩
theorem D5.step (h:D5 w W mb q S D seen v L) {i:Nat} (m:nM q i∈(Go.leftOf (cO q S.live) seen).toList) (l:¬(D i).1≤S.time):D5 w (setBlock W (w.heap.size+1) (.mapIter (some mb) S.items.length (seen.push i) S.items.length)) mb q S D (seen.push i) v L:=by
 have c:=ke W (w.heap.size+1) (.mapIter (some mb) S.items.length (seen.push i) S.items.length);have d:=nT m;have d:(Go.leftOf (cO q S.live) (seen.push i)).size < (Go.leftOf (cO q S.live) seen).size:=d;refine ⟨h.below.trans (c.below (by omega)),by rw [c.1];exact h.big,aP c h.out (by omega),s9 (ah h.it) _,ep h.row fun g f e _=>aP c e fun k=>?_,h.own,h.mem,fun j n b a=>?_,by have:=h.cnt;omega⟩
 ·rw [k,h.it] at e;simp at e
 ·rw [Array.contains_push,Bool.or_eq_true] at b
  rcases b with b | b
  ·exact h.all j n b a
  ·have:j=i:=by simpa using b
   rw [this] at a;exact absurd a l
theorem D5.plus (h:D5 w W mb q S D seen v L) {i:Nat} (H:i∈S.live) (G:nM q i∈(Go.leftOf (cO q S.live) seen).toList) (F:(D i).1≤S.time) {b s:World} (A:b=W∨b=W.drew) (r:aL (w.heap.size+1) b (setBlock b (w.heap.size+1) (.mapIter (some mb) S.items.length (seen.push i) S.items.length))) (m:Below (setBlock b (w.heap.size+1) (.mapIter (some mb) S.items.length (seen.push i) S.items.length)).heap.size (setBlock b (w.heap.size+1) (.mapIter (some mb) S.items.length (seen.push i) S.items.length)) W') (p:aH (fun k=>v.ownBlock=some k) W' s) (C:s.ownsRow 0 3 1 v' (L.length+1) (((iK L).map fun (i:Int)=> .int .i64 i)++[.int .i64 ((i:Int)+1)])) (I:∀g,v'.ownBlock=some g→v.ownBlock=some g∨W'.heap.size≤g):D5 w s mb q S D (seen.push i) v' (L++[i]):=by
 have B:=nT G;have B:(Go.leftOf (cO q S.live) (seen.push i)).size < (Go.leftOf (cO q S.live) seen).size:=B;have z:b.heap=W.heap:=by rcases A with e | e <;> rw [e];rfl
 have y:w.heap.size+2≤b.heap.size:=by rw [z];exact h.big
 have E:Below w.heap.size w b:=by rcases A with e | e <;> rw [e];exact h.below;exact h.below.drew
 obtain ⟨o,l⟩:∃o,setBlock b (w.heap.size+1) (.mapIter (some mb) S.items.length (seen.push i) S.items.length)=o:=⟨_,rfl⟩;have x:o.heap[w.heap.size+1]? =some (.mapIter (some mb) S.items.length (seen.push i) S.items.length):=by rw [←l];exact s9 (by omega) _
 rw [l] at r m;have J:=r.1;have f:w.heap.size+2≤W'.heap.size:=by have:=m.size;omega
 have c:∀k,k < w.heap.size+2→¬v.ownBlock=some k:=fun k K e=>by have:=h.own k e;omega
 have n:o.heap[w.heap.size]? =some (.cells #[.int .i64 0,.string ⟨#[]⟩,.slice none 0 0,.string ⟨#[]⟩] 104 (0,0)):=aP r (by rw [z];exact h.out) (by omega);have t:Below w.heap.size w W':=(E.trans (r.below (by omega))).trans (m.mono (by omega));refine ⟨t.trans ?_,Nat.le_trans f p.size,p.some_ (ae m n) (c _ (by omega)),p.some_ (ae m x) (c _ (by omega)),?_,fun k e=>(I k e).elim (h.own k) (fun e=>by omega),fun j d=>?_,fun j d a u=>?_,by rw [List.length_append];have:=h.cnt;simp only [List.length_cons,List.length_nil];omega⟩
 ·exact p.toBelow (fun k e=>by have:=h.own k e;omega) (by omega)
 ·rw [List.length_append];unfold iK at C ⊢;rw [List.map_append,List.map_append];exact C
 ·rw [List.mem_append,List.mem_singleton] at d
  rcases d with d | rfl
  ·exact h.mem j d
  ·exact ⟨H,F⟩
 ·rw [Array.contains_push,Bool.or_eq_true] at a;rw [List.mem_append,List.mem_singleton]
  rcases a with a | a
  ·exact .inl (h.all j d a u)
  ·exact .inr (by simpa using a)
end
end Go.Proofs.YtofpegbpgkkgkaaGreatDoor
