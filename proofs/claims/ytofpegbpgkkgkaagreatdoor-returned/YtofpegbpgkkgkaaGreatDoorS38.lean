import Derived.Test.YtofpegbpgkkgkaaGreatDoorS37
import Derived.Test.YtofpegbpgkkgkaaGreatDoorS35
namespace Go.Proofs.YtofpegbpgkkgkaaGreatDoor
set_option maxHeartbeats 8000000
set_option maxRecDepth 1000000
open Go.RowKit
section
variable {E own:Nat→Prop} {pp gb:Nat} {c:bX} {w w':World} {vS vM:Value} {sl:List (j0×Value)} {ml:List (aX×Value)} {g g':GS}
theorem gX.chg {B:Nat→Prop} (h:gX E own pp gb c w vS vM sl ml g) (a:aH B w w') (j:∀k,E k→¬B k) (l:∀k,own k→¬B k) (d:∀k,fX gb vS vM k→¬B k) (n:∀x∈sl,∀k,x.2.ownBlock=some k→¬B k) (m:∀x∈ml,∀k,x.2.ownBlock=some k→¬B k):gX E own pp gb c w' vS vM sl ml g:=by
 obtain ⟨C,f,i⟩:=h.blk;exact ⟨h.post.chg a j l,⟨C,a.some_ f (d _ (.inl rfl)),i⟩,bC h.srow a (fun k e=>d k (.inr (.inl e))),bC h.mrow a (fun k e=>d k (.inr (.inr e))),h.seq,h.meq,fun x b=>(h.stos x b).chg a (n x b) (fun k e=> .inl e) (fun k e=> .inl e),fun x b=>(h.mtos x b).chg a (m x b) (fun k e=> .inl e) (fun k e=> .inl e),fun k e=>⟨Nat.lt_of_lt_of_le (h.off k e).1 a.size,(h.off k e).2⟩⟩
structure Mr (E own:Nat→Prop) (pp gb:Nat) (c:bX) (w:World) (vS vM:Value) (sl:List (j0×Value)) (ml:List (aX×Value)) (g:GS) (z:Nat) (Ls:List (Value×List (List UInt8))):Prop where
 at_:gX E own pp gb c w vS vM sl ml g
 ez:∀k,E k→k < z
 gz:∀k,fX gb vS vM k→k < z
 sz:∀x∈sl,∀k,x.2.ownBlock=some k→k < z
 mz:∀x∈ml,∀k,x.2.ownBlock=some k→k < z
 zz:z≤w.heap.size
 tx:∀(i:Nat) x,Ls[i]? =some x→LJ z w x.1 x.2
 off:∀(i:Nat) x,Ls[i]? =some x→∀k,x.1.ownBlock=some k→¬own k
 ap:∀(i j:Nat) x y,i≠j→Ls[i]? =some x→Ls[j]? =some y→∀k,x.1.ownBlock=some k→y.1.ownBlock≠some k
variable {z:Nat} {Ls:List (Value×List (List UInt8))}
theorem Mr.start (h:gX E own pp gb c w vS vM sl ml g) (n:Nat):Mr E own pp gb c w vS vM sl ml g w.heap.size (List.replicate n (.slice none 0 0,[])):=by
 have a:∀(i:Nat) x,(List.replicate n ((.slice none 0 0:Value),([]:List (List UInt8))))[i]? =some x→x=(.slice none 0 0,[]):=fun i x e=>List.eq_of_mem_replicate (List.mem_of_getElem? e);refine ⟨h,fun k e=>h.post.elt e,fun k e=>(h.off k e).1,fun x d k e=>((h.stos x d).off k e).1,fun x d k e=>((h.mtos x d).off k e).1,Nat.le_refl _,fun i x e=>?_,fun i x e k b=>?_,fun i j x y _ e _ k b=>?_⟩
 ·rw [a i x e];exact LJ.zero _ _
 ·rw [a i x e] at b;cases b
 ·rw [a i x e] at b;cases b
theorem Mr.below (h:Mr E own pp gb c w vS vM sl ml g z Ls) (a:Below w.heap.size w w'):Mr E own pp gb c w' vS vM sl ml g z Ls:=
 ⟨h.at_.below a,h.ez,h.gz,h.sz,h.mz,Nat.le_trans h.zz a.size,fun i x e=>(h.tx i x e).below a,h.off,h.ap⟩
theorem Mr.post (h:Mr E own pp gb c w vS vM sl ml g z Ls) {a:Nat→Prop} (j:gX E a pp gb c w' vS vM sl ml g') (l:∀k,a k→own k∨w.heap.size≤k) (f:aH (fun k=>k=pp∨own k) w w'):Mr E a pp gb c w' vS vM sl ml g' z Ls:=by
 have m:=h.ez _ h.at_.post.epp;refine ⟨j,h.ez,h.gz,h.sz,h.mz,Nat.le_trans h.zz f.size,fun i x e=>(h.tx i x e).chg f (fun k b d=>d.elim (fun d=>?_) (h.off i x e k b)),fun i x e k b d=>(l k d).elim (h.off i x e k b) (fun n=>?_),h.ap⟩
 ·have:=((h.tx i x e).ge b).1;omega
 ·have:=((h.tx i x e).ge b).2;omega
theorem Mr.game (h:Mr E own pp gb c w vS vM sl ml g z Ls) {a:Nat→Prop} (j:gX E a pp gb c w' vS vM sl ml g') (l:∀k,a k→own k∨w.heap.size≤k) (f:aH (fun k=>k=pp∨own k∨fX gb vS vM k) w w'):Mr E a pp gb c w' vS vM sl ml g' z Ls:=by
 have m:=h.ez _ h.at_.post.epp;refine ⟨j,h.ez,h.gz,h.sz,h.mz,Nat.le_trans h.zz f.size,fun i x e=>(h.tx i x e).chg f (fun k d b=>?_),fun i x e k d b=>(l k b).elim (h.off i x e k d) (fun n=>?_),h.ap⟩
 ·have o:=((h.tx i x e).ge d).1
  rcases b with b | b | b
  ·omega
  ·exact h.off i x e k d b
  ·have:=h.gz k b;omega
 ·have:=((h.tx i x e).ge d).2;omega
theorem Mr.set (h:Mr E own pp gb c w vS vM sl ml g z Ls) {n:Nat} {x y:Value×List (List UInt8)} (m:Ls[n]? =some x) (B:aH (fun k=>x.1.ownBlock=some k) w w') (K:LJ z w' y.1 y.2) (C:∀k,y.1.ownBlock=some k→x.1.ownBlock=some k∨w.heap.size≤k):Mr E own pp gb c w' vS vM sl ml g z (Ls.set n y):=by
 have d:∀k,x.1.ownBlock=some k→z≤k:=fun k e=>((h.tx n x m).ge e).1;have J:n < Ls.length:=(List.getElem?_eq_some_iff.1 m).1
 have b:∀(i:Nat) u,(Ls.set n y)[i]? =some u→(i=n∧u=y)∨(i≠n∧Ls[i]? =some u):=fun i u e=>by
  by_cases v:n=i
  ·subst v;rw [List.getElem?_set_self J] at e;exact .inl ⟨rfl,by injection e with e;exact e.symm⟩
  ·rw [List.getElem?_set_ne v] at e;exact .inr ⟨Ne.symm v,e⟩
 refine ⟨h.at_.chg B (fun k e x=>?_) (fun k e x=>h.off n _ m k x e) (fun k e x=>?_) (fun u F k e x=>?_) (fun u F k e x=>?_),h.ez,h.gz,h.sz,h.mz,Nat.le_trans h.zz B.size,fun i u e=>?_,fun i u e k l a=>?_,fun i j u t p H l k a f=>?_⟩
 ·have:=h.ez k e;have:=d k x;omega
 ·have:=h.gz k e;have:=d k x;omega
 ·have:=h.sz u F k e;have:=d k x;omega
 ·have:=h.mz u F k e;have:=d k x;omega
 ·rcases b i u e with ⟨_,rfl⟩ | ⟨r,e⟩
  ·exact K
  ·exact (h.tx i u e).chg B (fun k l a=>h.ap i n u x r e m k l a)
 ·rcases b i u e with ⟨_,rfl⟩ | ⟨r,e⟩
  ·rcases C k l with f | f
   ·exact h.off n x m k f a
   ·have:=h.at_.post.lt a;omega
  ·exact h.off i u e k l a
 ·rcases b i u H with ⟨D,I⟩ | ⟨D,A⟩
  ·rcases b j t l with ⟨q,G⟩ | ⟨q,s⟩
   ·exact p (D.trans q.symm)
   ·rw [I] at a
    rcases C k a with o | o
    ·exact h.ap n j x t (Ne.symm q) m s k o f
    ·have:=((h.tx j t s).ge f).2;omega
  ·rcases b j t l with ⟨q,G⟩ | ⟨q,s⟩
   ·rw [G] at f
    rcases C k f with o | o
    ·exact h.ap i n u x D A m k a o
    ·have:=((h.tx i u A).ge a).2;omega
   ·exact h.ap i j u t p A s k a f
end
def qc (cs:List Int) (n k:Nat):Nat:=if cs=[] then 450 else ([250,550,450,451]:List Nat).getD (cM (cs.getD ((7 * n+k) % cs.length) 0) 4).toNat 450
theorem MT (b:List Int) (n:Nat):Mu (qc b n):=fun k=>by
 unfold qc
 split
 ·exact .inr (.inr (.inl rfl))
 ·have h:=dt (b.getD ((7 * n+k) % b.length) 0) (n:=4) (by decide);obtain ⟨a,d⟩:∃a,(cM (b.getD ((7 * n+k) % b.length) 0) 4).toNat=a:=⟨_,rfl⟩;have e:a < 4:=by omega
  rw [d];have:a=0∨a=1∨a=2∨a=3:=by omega
  rcases this with rfl | rfl | rfl | rfl
  ·exact .inl rfl
  ·exact .inr (.inl rfl)
  ·exact .inr (.inr (.inl rfl))
  ·exact .inr (.inr (.inr rfl))
section
variable {E own:Nat→Prop} {pp gb:Nat} {c:bX} {w w1 w2:World} {vS vM:Value} {sl:List (j0×Value)} {ml:List (aX×Value)} {g g1:GS}
def qu (E own:Nat→Prop) (pp gb:Nat) (c:bX) (w:World) (vS vM:Value) (sl:List (j0×Value)) (ml:List (aX×Value)) (g1:GS) (w1:World) (vA vB:Value) (A B:List (List UInt8)):Prop:=
 ∃own1,Mr E own1 pp gb c w1 vS vM sl ml g1 w.heap.size [(vA,A),(vB,B)]∧(∀k,own1 k→own k∨w.heap.size≤k)∧aH (fun k=>k=pp∨own k) w w1
variable {vA vB:Value} {A B:List (List UInt8)}
theorem qu.start (h:gX E own pp gb c w vS vM sl ml g):qu E own pp gb c w vS vM sl ml g w (.slice none 0 0) (.slice none 0 0) [] []:=⟨own,Mr.start h 2,fun _ e=> .inl e,aH.refl _ _⟩
theorem qu.below (h:qu E own pp gb c w vS vM sl ml g1 w1 vA vB A B) (b:Below w1.heap.size w1 w2):qu E own pp gb c w vS vM sl ml g1 w2 vA vB A B:=by
 obtain ⟨a,d,f,i⟩:=h;exact ⟨a,d.below b,f,i.trans (aH.below b:aH (fun _=>False) w1 w2) (fun _ _ e=>e.elim)⟩
theorem qu.answer (h:qu E own pp gb c w vS vM sl ml g1 w1 vA vB A B) {t n:aQ} {x:List UInt8} (r:g1.tk=some t) (q:t.said≠6) (a:Nat) (o:200≤a∧a≤599) (s:Gn c g1.S t a=(n,x++yQ)) (p:x.length≤1000000000):
  Calls Tryz.prog 51 #[.pointer (some ⟨gb,0,none⟩),.int .i64 (a:Int)] w1 fun e v=>e= .returned (.string (bs x))∧qu E own pp gb c w vS vM sl ml {g1 with tk:=some n} v vA vB A B:=by
 obtain ⟨m,d,f,i⟩:=h;refine ((tB.refl d.at_).answer r q a o s p).mono ?_;rintro e w2 ⟨rfl,b,u,j,l⟩;exact ⟨rfl,b,d.post u j l,fun k e=>(j k e).elim (f k) (fun e=> .inr (Nat.le_trans i.size e)),i.trans l (fun k y e=>e.imp id (fun e=>(f k e).elim id (fun e=>by omega)))⟩
theorem qu.fin (h:qu E own pp gb c w vS vM sl ml g1 w1 vA vB A B) {t:aQ} (m:g1.tk=some t) (r:t.said=6) (a:Nat) (q:200≤a∧a≤599):
  Calls Tryz.prog 33 #[.pointer (some ⟨pp,0,none⟩),.int .i64 (a:Int)] w1 fun e u=>e= .returned (.tuple #[.string ⟨#[]⟩,.int .i64 0])∧qu E own pp gb c w vS vM sl ml (Bt c g1 t) u vA vB A B:=by
 obtain ⟨p,d,i,j⟩:=h;have l:=d.at_.post;rw [m] at l;refine (l.ansEnd r a q).mono ?_;rintro e w2 ⟨rfl,f⟩;obtain ⟨b,s,n,o⟩:=d.at_.call f (d.at_.post.laters.2 t m).2;exact ⟨rfl,b,d.post s n o,fun k e=>(n k e).elim (i k) (fun e=> .inr (Nat.le_trans j.size e)),j.trans o (fun k v e=>e.imp id (fun e=>(i k e).elim id (fun e=>by omega)))⟩
theorem qu.addA (h:qu E own pp gb c w vS vM sl ml g1 w1 vA vB A B) (y:List UInt8) (l:A.length≤255):∃q a w2,(Builtin.append_ #[25,25] 25 #[vA,.slice (some ⟨w1.heap.size,0,none⟩) 1 1]).run Tryz.prog (w1.alloc (.cells #[.string (bs y)] 9))= .ok (.slice (some ⟨q,0,none⟩) (A.length+1) a) w2∧qu E own pp gb c w vS vM sl ml g1 w2 (.slice (some ⟨q,0,none⟩) (A.length+1) a) vB (A++[y]) B:=by
 obtain ⟨b,d,i,j⟩:=h;obtain ⟨q,a,w2,m,o,f,p⟩:=(d.tx 0 _ rfl).one y l d.zz;refine ⟨q,a,w2,m,b,d.set (n:=0) (y:=(.slice (some ⟨q,0,none⟩) (A.length+1) a,A++[y])) rfl f o (fun k e=>?_),i,j.trans f (fun k r e=>?_)⟩
 ·have e:q=k:=by simpa [Value.ownBlock] using e
  rw [←e];exact p
 ·have:=((d.tx 0 _ rfl).ge e).1;omega
theorem qu.addB (h:qu E own pp gb c w vS vM sl ml g1 w1 vA vB A B) (y:List UInt8) (l:B.length≤255):∃q a w2,(Builtin.append_ #[25,25] 25 #[vB,.slice (some ⟨w1.heap.size,0,none⟩) 1 1]).run Tryz.prog (w1.alloc (.cells #[.string (bs y)] 9))= .ok (.slice (some ⟨q,0,none⟩) (B.length+1) a) w2∧qu E own pp gb c w vS vM sl ml g1 w2 vA (.slice (some ⟨q,0,none⟩) (B.length+1) a) A (B++[y]):=by
 obtain ⟨b,d,i,j⟩:=h;obtain ⟨q,a,w2,m,o,f,p⟩:=(d.tx 1 _ rfl).one y l d.zz;refine ⟨q,a,w2,m,b,d.set (n:=1) (y:=(.slice (some ⟨q,0,none⟩) (B.length+1) a,B++[y])) rfl f o (fun k e=>?_),i,j.trans f (fun k r e=>?_)⟩
 ·have e:q=k:=by simpa [Value.ownBlock] using e
  rw [←e];exact p
 ·have:=((d.tx 1 _ rfl).ge e).1;omega
end
section
variable {E own:Nat→Prop} {pp gb:Nat} {c:bX} {w:World} {vS vM:Value} {sl:List (j0×Value)} {ml:List (aX×Value)} {g:GS}
theorem Nd (i:Nat) {L:List (Nat×List UInt8)} (a:Nat→Nat) {k:Nat} (b:k < L.length):(Mm i L a k).said≠6:=by
 unfold Mm;rw [if_pos b];show 3≠6;decide
theorem Mn (L:List (Nat×List UInt8)) (a:Nat→Nat):∀k,(ks L a k).length≤k∧(mc L a k).length≤k
 | 0=>⟨Nat.le_refl _,Nat.le_refl _⟩
 | k+1=>by
  have h:=Mn L a k
  have d:∀b:Bool,(if b=true then (L[k]?).toList else []).length≤1:=fun b=>by
   cases b
   ·exact Nat.zero_le _
   ·show ((L[k]?).toList).length≤1
    cases L[k]? <;> simp
  unfold ks mc;rw [List.length_append,List.length_append];have e:=d (decide (a k=250));have f:=d (decide (a k=550));simp only [decide_eq_true_eq] at e f;omega
theorem Mp (hh:cQ c=[109,120,46,111,114,103]) (h:gX E own pp gb c w vS vM sl ml g) {i n:Nat} (ht:g.tk=some (jM g.S i)) (hi:i∈g.S.live) (d1:∀r∈g.S.stayOf i,2≤r.2.length) (t:List Int) (vc:Value) (a1:bg w vc t.length 1 (ib t)) (f1:t.length≤140737488351232) (a3:∀x∈t, -9223372036854775808≤x∧x≤9223372036854775807) (c9:t≠[]→∀k,vc.ownBlock=some k→¬(k=pp∨own k)) (hn:n < 600):
  Calls Tryz.prog 27 #[.pointer (some ⟨gb,0,none⟩),vc,.int .i64 (n:Int)] w fun e w'=>∃vA vB,e= .returned (.tuple #[vA,vB])∧qu E own pp gb c w vS vM sl ml (Bt c g (MW i (g.S.stayOf i) (qc t n))) w' vA vB (gy (ks (g.S.stayOf i) (qc t n) (g.S.stayOf i).length)) (gy (mc (g.S.stayOf i) (qc t n) (g.S.stayOf i).length)):=by
 have a9:=h.post.sok.ok;have hz:=a9.sz _ (List.getElem_mem (bq hi));rw [←kd (bq hi)] at hz;have a4:Hid (∀r∈g.S.stayOf i,r.2.length≤255):=Lib.hid (Lh hz.1);have d6:Hid ((g.S.mailOf i).body.length≤1048576):=Lib.hid hz.1.2.2.2.2.2;have d9:Hid ((g.S.mailOf i).frm.length≤255):=Lib.hid hz.1.2.2.1;have d7:=Lib.hid (qu.start h);have e3:Hid (g.S.stayOf i≠[]):=Lib.hid (jT.1 hi).2;have b6:Hid ((g.S.stayOf i).length≤10):=Lib.hid (dk a9 i);have b8:=Lib.hid d1;unfold jM at ht;obtain ⟨L,eL⟩:∃L,g.S.stayOf i=L:=⟨_,rfl⟩;rw [eL] at a4 e3 b6 b8 ht;rw [eL];obtain ⟨d,Z⟩:∃d,qc t n=d:=⟨_,rfl⟩;have a5:Hid (Mu d):=Lib.hid (by rw [←Z];exact MT t n);rw [Z];have HT:=Lib.hid ht;obtain ⟨ac,cc,e6,_⟩:=a1.one
 have a2:Hid (∀W:World,aH (fun k=>k=pp∨own k) w W→bg W vc t.length 1 (ib t)):=Lib.hid fun W hc=>by
  by_cases h0:t=[]
  ·subst h0;refine ⟨rfl,.inl ⟨rfl,?_⟩⟩;obtain ⟨a,H,e,_⟩:=a1.one;exact ⟨a,H,e⟩
  ·exact a1.chg hc (c9 h0)
 subst e6;obtain ⟨N,eN⟩:∃N,t.length=N:=⟨_,rfl⟩;have b5:=Lib.hid eN;rw [eN] at a2 f1 ⊢;have b4:=Lib.hid Z;have d5:=Lib.hid a3;have e0:=Lib.hid hh;have f8:L.length≤10:=b6.out;clear a9 hz h a1 c9 d1 hi ht eL Z a3 hh eN
 have H1:=Lib.hid (d7.out.answer HT.out (by show 0≠6;decide) 220 (by decide) (LF c g.S i) (by
  rw [e0.out]
  decide))
 go_enter Tryz.func27,Tryz.ntmps27;go_wp2_with fail
 refine H1.out.mono ?_;rintro e w1 ⟨rfl,c3⟩
 have H2:=Lib.hid (c3.answer rfl (by show 1≠6;decide) 250 (by decide) (LG c g.S i) (by
  have:=d9.out;unfold KZ;simp only [List.length_append,List.length_cons,List.length_nil]
  omega))
 clear c3 H1;go_wp2_with fail
 refine H2.out.mono ?_;rintro e w2 ⟨rfl,c4⟩
 have b1:∀k,(MR L d k).length≤1000:=fun k=>by
  unfold MR
  split
  ·rename_i r er
   have:=a4.out r (List.mem_of_getElem? er);unfold K8;simp only [List.length_append,List.length_cons,List.length_nil];omega
  ·split <;> decide
 have e5:=Lib.hid b1;have H3:=Lib.hid (c4.answer rfl (by show 2≠6;decide) 250 (by decide) (NB c g.S i (cd:=d)) (by have:=b1 0;omega));clear c4 H2 b1;go_wp2_with fail
 refine H3.out.mono ?_;rintro e w3 ⟨rfl,c5⟩;have d8:Hid (qu E own pp gb c w vS vM sl ml {g with tk:=some (Mm i L d 0)} w3 (.slice none 0 0) (.slice none 0 0) (gy (ks L d 0)) (gy (mc L d 0))):=Lib.hid c5;clear c5 H3;go_wp2_with fail
 go_loopw [8,9,10,11] (fun a b s v wr=>∃k:Nat,k≤L.length∧s= .string (bs (MR L d k))∧v= .int .i64 k∧Hid (qu E own pp gb c w vS vM sl ml {g with tk:=some (Mm i L d k)} wr a b (gy (ks L d k)) (gy (mc L d k)))) (fun _ _ _ v _=>L.length - (intOf v).toNat)
 case atStart=>exact ⟨0,Nat.zero_le _,rfl,rfl,d8⟩
 case round=>
  obtain ⟨k,hk,rfl,rfl,J⟩:=hrel
  by_cases I:k < L.length
  ·have es:MR L d k=K8 L[k].2:=by unfold MR;rw [List.getElem?_eq_getElem I]
   have f2:=b8.out _ (List.getElem_mem I);have f3:=a4.out _ (List.getElem_mem I);obtain ⟨C,a0⟩:∃C,L[k].2=C:=⟨_,rfl⟩;rw [a0] at es f2 f3;rw [es];obtain ⟨m,em⟩:∃m,C.length=m:=⟨_,rfl⟩
   have g0:(bs (K8 C)).size=m+10:=by
    rw [aG];unfold K8;simp only [List.length_append,List.length_cons,List.length_nil];omega
   have q1:(11:Int) < (m:Int)+10:=by omega
   have q2:(((bs (K8 C)).extract 0 9).toList == [82,67,80,84,32,84,79,58,60])=true:=by
    rw [fW,ByteArray.toList_eq,aI];rfl
   have hw:IntKind.i64.wrap ((m:Int)+10 - 1)=(m:Int)+9:=by rw [IntKind.wrap_i64];omega
   have d2:(bs (K8 C)).extract 9 (m+9)=bs C:=by
    rw [fW,←em];have e:K8 C=[82,67,80,84,32,84,79,58,60]++(C++[62]):=by unfold K8;rw [List.append_assoc]
    rw [e,List.take_append,List.take_of_length_le (by simp)];show bs ((C++[62]).take (C.length+9 - 9))=bs C;rw [Nat.add_sub_cancel,List.take_left' rfl]
   have c1:=Lib.hid d2
   have b2:gy (ks L d (k+1))=gy (ks L d k)++(if d k=250 then [C] else []):=by
    show gy (ks L d k++_)=_;rw [List.getElem?_eq_getElem I];unfold gy;rw [List.map_append]
    congr 1
    split
    ·show [L[k].2]=[C];rw [a0]
    ·rfl
   have b0:gy (mc L d (k+1))=gy (mc L d k)++(if d k=550 then [C] else []):=by
    show gy (mc L d k++_)=_;rw [List.getElem?_eq_getElem I];unfold gy;rw [List.map_append]
    congr 1
    split
    ·show [L[k].2]=[C];rw [a0]
    ·rfl
   have d0:(gy (ks L d k)).length≤10∧(gy (mc L d k)).length≤10:=by
    have:=Mn L d k;unfold gy;rw [List.length_map,List.length_map];omega
   have b7:=Lib.hid d0;have u:Hid (∀(W:World) (a b:Value) (A B:List (List UInt8)),qu E own pp gb c w vS vM sl ml {g with tk:=some (Mm i L d k)} W a b A B→Calls Tryz.prog 51 #[.pointer (some ⟨gb,0,none⟩),.int .i64 ((d k:Nat):Int)] W fun e w'=>e= .returned (.string (bs (MR L d (k+1))))∧qu E own pp gb c w vS vM sl ml {g with tk:=some (Mm i L d (k+1))} w' a b A B):=Lib.hid fun W a b A B hT=>hT.answer rfl (Nd i d I) (d k) (by rcases a5.out k with e | e | e | e <;> rw [e] <;> decide) (Ni c g.S i a5.out I) (by have:=e5.out (k+1);omega)
   obtain ⟨ck,Q⟩:∃ck,d k=ck:=⟨_,rfl⟩;have a8:=a5.out k;rw [Q] at u b2 b0 a8;have O:=Lib.hid b2;have M:=Lib.hid b0;obtain ⟨d4,F,_,c8⟩:=J.out;obtain ⟨U,X,eA⟩:=aE (F.tx 0 _ rfl).at;obtain ⟨V,Y,eB⟩:=aE (F.tx 1 _ rfl).at;have S:=a2.out wr c8;have eA:u8= .slice U (gy (ks L d k)).length X:=eA;have eB:u9= .slice V (gy (mc L d k)).length Y:=eB;subst eA eB;clear d2 b2 b0 d0 F c8 es a0 em
   by_cases K:t=[]
   ·have c2:ck=450:=by rw [←Q,←b4.out];unfold qc;rw [if_pos K]
    subst c2
    have e8:¬(0:Int) < (N:Int):=by
     have h1:=b5.out;rw [K] at h1;have h1:0=N:=h1;omega
    clear S a8 Q K;go_wp2_with fail
    refine (u.out _ _ _ _ _ J.out).mono ?_;rintro e w4 ⟨rfl,D⟩
    have y:Hid (qu E own pp gb c w vS vM sl ml {g with tk:=some (Mm i L d (k+1))} w4 (.slice U (gy (ks L d k)).length X) (.slice V (gy (mc L d k)).length Y) (gy (ks L d (k+1))) (gy (mc L d (k+1)))):=Lib.hid (by
     rw [O.out,M.out,if_neg (by decide),if_neg (by decide),List.append_nil,List.append_nil]
     exact D)
    clear D;go_wp2_with fail
    exact ⟨⟨k+1,by omega,rfl,by go_num,y⟩,by simp [intOf];omega⟩
   ·have eN:=b5.out;have hN:0 < N:=by rw [←eN];exact List.length_pos_iff.2 K
    obtain ⟨x,ex⟩:∃x,t.getD ((7 * n+k) % t.length) 0=x:=⟨_,rfl⟩;have p:(7 * n+k) % t.length < t.length:=Nat.mod_lt _ (by omega);obtain ⟨b,d3,eb,c7,l⟩:=S.elem _ (by rw [←eN];exact p)
    have T: -9223372036854775808≤x∧x≤9223372036854775807:=by
     rw [←ex,List.getD_eq_getElem?_getD,List.getElem?_eq_getElem p];exact d5.out _ (List.getElem_mem p)
    have l:wr.cell? ⟨b,d3+(7 * n+k) % t.length,none⟩=some (.int .i64 x):=by
     rw [l,←ex,List.getD_eq_getElem?_getD];unfold ib;rw [List.getElem?_map,List.getElem?_eq_getElem p];rfl
    have f0:=dt x (n:=4) (by decide);obtain ⟨a,ea⟩:∃a:Nat,cM x 4=(a:Int):=⟨(cM x 4).toNat,by omega⟩
    have e4:Hid (∀W:World,Calls Tryz.prog 20 #[.int .i64 x,.int .i64 4] W fun e w'=>e= .returned (.int .i64 (a:Int))∧W=w'):=Lib.hid fun W=>by
     have:=bZ x 4 W T.1 T.2 (by decide) (by decide);rw [ea] at this;exact this
    have f7:a < 4:=by omega
    have R:([250,550,450,451]:List Nat).getD a 450=ck:=by
     rw [←Q,←b4.out];unfold qc;rw [if_neg K,ex,ea];rfl
    obtain ⟨r,er⟩:∃r,(7 * n+k) % t.length=r:=⟨_,rfl⟩;rw [er] at l p;rw [eN] at p er;have g4:IntKind.i64.wrap (7 * (n:Int))=7 * (n:Int):=by rw [IntKind.wrap_i64];omega
    have g5:IntKind.i64.wrap (7 * (n:Int)+(k:Int))=7 * (n:Int)+(k:Int):=by rw [IntKind.wrap_i64];omega
    have f5:(7 * (n:Int)+(k:Int)).tmod (N:Int)=(r:Int):=by
     rw [←er];rw [show (7 * (n:Int)+(k:Int))=((7 * n+k:Nat):Int) by omega]
     exact Int.ofNat_tmod _ _
    have f6:¬(N:Int)=0:=by omega
    have e8:(0:Int) < (N:Int):=by omega
    have f9:(r:Int) < (N:Int):=by omega
    subst eb;have a6:∀o:Obj,(wr.alloc o).cell? ⟨b,d3+r,none⟩=some (.int .i64 x):=fun o=>(((Below.refl _ wr).alloc (Nat.le_refl _) o).cell c7).trans l
    have f:(wr.alloc (.cells #[.int .i64 250,.int .i64 550,.int .i64 450,.int .i64 451] 3)).cell? ⟨wr.heap.size,a,none⟩=some (.int .i64 (ck:Int)):=by
     rw [Lib.cell_of_heap (heap_alloc_new wr _),←R];have:a=0∨a=1∨a=2∨a=3:=by omega
     rcases this with rfl | rfl | rfl | rfl <;> rfl
    have y:Hid (qu E own pp gb c w vS vM sl ml {g with tk:=some (Mm i L d k)} (wr.alloc (.cells #[.int .i64 250,.int .i64 550,.int .i64 450,.int .i64 451] 3)) (.slice U (gy (ks L d k)).length X) (.slice V (gy (mc L d k)).length Y) (gy (ks L d k)) (gy (mc L d k))):=Lib.hid (J.out.below ((Below.refl _ _).alloc (Nat.le_refl _) _));clear R f0 ea ex er T p S K Q eN l c7;go_wp2_with fail
    refine (e4.out _).mono ?_;rintro e wx ⟨rfl,rfl⟩;obtain ⟨W4,c6⟩:∃W,wr.alloc (.cells #[.int .i64 250,.int .i64 550,.int .i64 450,.int .i64 451] 3)=W:=⟨_,rfl⟩;rw [c6] at f y ⊢;clear c6 a6
    rcases a8 with e | e | e | e
    ·subst e;have f:W4.cell? ⟨wr.heap.size,a,none⟩=some (.int .i64 250):=f;obtain ⟨q,H,W5,k1,k2⟩:=y.out.addA C (by have:=b7.out;omega);rw [←c1.out] at k1;have HR:=Lib.hid k1;have G:=Lib.hid k2;clear k1 k2
     go_wp2_with (first
      | (at_builtin;refine bB rfl _ _ 25 rfl _ _ (.slice (some ⟨q,0,none⟩) ((gy (ks L d k)).length+1) H) W5 rfl rfl HR.out ?_)
      | fail)
     refine (u.out _ _ _ _ _ G.out).mono ?_;rintro e w6 ⟨rfl,j⟩
     have z:Hid (qu E own pp gb c w vS vM sl ml {g with tk:=some (Mm i L d (k+1))} w6 (.slice (some ⟨q,0,none⟩) ((gy (ks L d k)).length+1) H) (.slice V (gy (mc L d k)).length Y) (gy (ks L d (k+1))) (gy (mc L d (k+1)))):=Lib.hid (by
      rw [O.out,M.out,if_pos trivial,if_neg (by decide),List.append_nil]
      exact j)
     clear j;go_wp2_with fail
     exact ⟨⟨k+1,by omega,rfl,by go_num,z⟩,by simp [intOf];omega⟩
    ·subst e;have f:W4.cell? ⟨wr.heap.size,a,none⟩=some (.int .i64 550):=f;obtain ⟨q,H,W5,k1,k2⟩:=y.out.addB C (by have:=b7.out;omega);rw [←c1.out] at k1;have HR:=Lib.hid k1;have G:=Lib.hid k2;clear k1 k2
     go_wp2_with (first
      | (at_builtin;refine bB rfl _ _ 25 rfl _ _ (.slice (some ⟨q,0,none⟩) ((gy (mc L d k)).length+1) H) W5 rfl rfl HR.out ?_)
      | fail)
     refine (u.out _ _ _ _ _ G.out).mono ?_;rintro e w6 ⟨rfl,j⟩
     have z:Hid (qu E own pp gb c w vS vM sl ml {g with tk:=some (Mm i L d (k+1))} w6 (.slice U (gy (ks L d k)).length X) (.slice (some ⟨q,0,none⟩) ((gy (mc L d k)).length+1) H) (gy (ks L d (k+1))) (gy (mc L d (k+1)))):=Lib.hid (by
      rw [O.out,M.out,if_neg (by decide),if_pos trivial,List.append_nil]
      exact j)
     clear j;go_wp2_with fail
     exact ⟨⟨k+1,by omega,rfl,by go_num,z⟩,by simp [intOf];omega⟩
    ·subst e;have f:W4.cell? ⟨wr.heap.size,a,none⟩=some (.int .i64 450):=f;have G:=y;go_wp2_with fail
     refine (u.out _ _ _ _ _ G.out).mono ?_;rintro e w6 ⟨rfl,j⟩
     have z:Hid (qu E own pp gb c w vS vM sl ml {g with tk:=some (Mm i L d (k+1))} w6 (.slice U (gy (ks L d k)).length X) (.slice V (gy (mc L d k)).length Y) (gy (ks L d (k+1))) (gy (mc L d (k+1)))):=Lib.hid (by
      rw [O.out,M.out,if_neg (by decide),if_neg (by decide),List.append_nil,List.append_nil]
      exact j)
     clear j;go_wp2_with fail
     exact ⟨⟨k+1,by omega,rfl,by go_num,z⟩,by simp [intOf];omega⟩
    ·subst e;have f:W4.cell? ⟨wr.heap.size,a,none⟩=some (.int .i64 451):=f;have G:=y;go_wp2_with fail
     refine (u.out _ _ _ _ _ G.out).mono ?_;rintro e w6 ⟨rfl,j⟩
     have z:Hid (qu E own pp gb c w vS vM sl ml {g with tk:=some (Mm i L d (k+1))} w6 (.slice U (gy (ks L d k)).length X) (.slice V (gy (mc L d k)).length Y) (gy (ks L d (k+1))) (gy (mc L d (k+1)))):=Lib.hid (by
      rw [O.out,M.out,if_neg (by decide),if_neg (by decide),List.append_nil,List.append_nil]
      exact j)
     clear j;go_wp2_with fail
     exact ⟨⟨k+1,by omega,rfl,by go_num,z⟩,by simp [intOf];omega⟩
  ·obtain rfl:k=L.length:=by omega
   obtain ⟨d4,F,_,_⟩:=J.out;obtain ⟨U,X,eA⟩:=aE (F.tx 0 _ rfl).at;obtain ⟨V,Y,eB⟩:=aE (F.tx 1 _ rfl).at;have c0:=F.at_.cells.1;have eA:u8= .slice U (gy (ks L d L.length)).length X:=eA;have eB:u9= .slice V (gy (mc L d L.length)).length Y:=eB;subst eA eB;clear F
   by_cases hw:ks L d L.length=[]
   ·obtain ⟨e1,e2⟩:=Nh i hw;have hD:=J.out;rw [e1] at hD;have HF:=Lib.hid (hD.fin rfl rfl 221 (by decide));rw [e2];have f4:(bs MD).size=4:=by rw [aG];rfl
    have q1:((bs MD).toList == [68,65,84,65])=false:=by rw [ByteArray.toList_eq,aI];rfl
    clear hw e1 e2 hD;go_wp2_with fail
    refine HF.out.mono ?_;rintro e w4 ⟨rfl,D⟩;have y:=Lib.hid D;clear D;go_wp2_with fail
    refine bodyPost_ret (v:= .tuple #[.slice U (gy (ks L d L.length)).length X,.slice V (gy (mc L d L.length)).length Y]) (by simp [results,Tryz.results27,go_sem]) rfl ?_;exact ⟨_,_,rfl,y.out⟩
   ·obtain ⟨e1,e2⟩:=Ng i hw;have hD:=J.out;rw [e1] at hD;obtain ⟨P,hP⟩:=Lz (g.S.mailOf i).body;have e9:=hP.short;have HA:=Lib.hid (hD.answer rfl (by show 4≠6;decide) 354 (by decide) (Nf c g.S i _ _) (by rw [hP.sent];have:=d6.out;omega));rw [e2];have f4:(bs MP).size=4:=by rw [aG];rfl
    have q1:((bs MP).toList == [68,65,84,65])=true:=by rw [ByteArray.toList_eq,aI];rfl
    clear hw e1 e2 hD hP e9 c0;go_wp2_with fail
    refine HA.out.mono ?_;rintro e w4 ⟨rfl,D⟩;have b3:=Lib.hid (D.answer rfl (by show 5≠6;decide) 250 (by decide) (Nv c g.S i _ _) (by decide));clear D HA;go_wp2_with fail
    refine b3.out.mono ?_;rintro e w5 ⟨rfl,a7⟩;have HF:=Lib.hid (a7.fin rfl rfl 221 (by decide))
    have c0:w5.cell? ⟨gb,0,none⟩=some (.pointer (some ⟨pp,0,none⟩)):=by
     obtain ⟨_,e7,_,_⟩:=a7;exact e7.at_.cells.1
    clear a7 b3;go_wp2_with fail
    refine HF.out.mono ?_;rintro e w6 ⟨rfl,j⟩;have z:=Lib.hid j;clear j c0;go_wp2_with fail
    refine bodyPost_ret (v:= .tuple #[.slice U (gy (ks L d L.length)).length X,.slice V (gy (mc L d L.length)).length Y]) (by simp [results,Tryz.results27,go_sem]) rfl ?_;exact ⟨_,_,rfl,z.out⟩
end
theorem iT.chg {s:Nat} {w i:World} {v:Value} {a:List (aX×Nat)} {B:Nat→Prop} (h:iT s w v a) (f:aH B w i) (d:∀k,s≤k→¬B k):iT s i v a:=
 ⟨ep h.row fun g _ e b=>f.some_ e (d g b),fun x j=>ep (h.tos x j) fun g _ e b=>f.some_ e (d g b),h.apart⟩
section
variable {E own own1:Nat→Prop} {pp gb:Nat} {c:bX} {w w1 w2:World} {vS vM:Value} {sl:List (j0×Value)} {ml:List (aX×Value)} {g1 g2:GS} {Ls:List (Value×List (List UInt8))}
def H6 (E own:Nat→Prop) (pp gb:Nat) (c:bX) (w:World) (vS vM:Value) (sl:List (j0×Value)) (ml:List (aX×Value)) (g1:GS) (w1:World) (Ls:List (Value×List (List UInt8))):Prop:=
 ∃own1,Mr E own1 pp gb c w1 vS vM sl ml g1 w.heap.size Ls∧(∀k,own1 k→own k∨w.heap.size≤k)∧aH (fun k=>k=pp∨own k∨fX gb vS vM k) w w1
theorem H6.start (h:gX E own pp gb c w vS vM sl ml g1) (n:Nat):H6 E own pp gb c w vS vM sl ml g1 w (List.replicate n (.slice none 0 0,[])):=⟨own,Mr.start h n,fun _ e=> .inl e,aH.refl _ _⟩
theorem H6.below (h:H6 E own pp gb c w vS vM sl ml g1 w1 Ls) (a:Below w1.heap.size w1 w2):H6 E own pp gb c w vS vM sl ml g1 w2 Ls:=by
 obtain ⟨own1,b,d,f⟩:=h;exact ⟨own1,b.below a,d,f.trans (aH.below a:aH (fun _=>False) w1 w2) (fun _ _ e=>e.elim)⟩
theorem H6.post (h:Mr E own1 pp gb c w1 vS vM sl ml g1 w.heap.size Ls) (b:∀k,own1 k→own k∨w.heap.size≤k) (d:aH (fun k=>k=pp∨own k∨fX gb vS vM k) w w1) (i:tB E own1 pp gb c w1 vS vM sl ml g2 w2):H6 E own pp gb c w vS vM sl ml g2 w2 Ls:=by
 obtain ⟨a,j,f,g⟩:=i;exact ⟨a,h.post j f g,fun k e=>(f k e).elim (b k) (fun e=> .inr (Nat.le_trans d.size e)),d.trans g (fun k l e=>e.imp id (fun e=>(b k e).elim .inl (fun e=>by omega)))⟩
theorem H6.game {a:Nat→Prop} (h:Mr E own1 pp gb c w1 vS vM sl ml g1 w.heap.size Ls) (b:∀k,own1 k→own k∨w.heap.size≤k) (d:aH (fun k=>k=pp∨own k∨fX gb vS vM k) w w1) (i:gX E a pp gb c w2 vS vM sl ml g2) (f:∀k,a k→own1 k∨w1.heap.size≤k) (g:aH (fun k=>k=pp∨own1 k∨fX gb vS vM k) w1 w2):H6 E own pp gb c w vS vM sl ml g2 w2 Ls:=
 ⟨a,h.game i f g,fun k e=>(f k e).elim (b k) (fun e=> .inr (Nat.le_trans d.size e)),d.trans g (fun k j e=>by
  rcases e with e | e | e
  ·exact .inl e
  ·exact (b k e).elim (fun e=> .inr (.inl e)) (fun e=>by omega)
  ·exact .inr (.inr e))⟩
theorem H6.set (h:H6 E own pp gb c w vS vM sl ml g1 w1 Ls) {n:Nat} {x y:Value×List (List UInt8)} (d:Ls[n]? =some x) (b:aH (fun k=>x.1.ownBlock=some k) w1 w2) (j:LJ w.heap.size w2 y.1 y.2) (i:∀k,y.1.ownBlock=some k→x.1.ownBlock=some k∨w1.heap.size≤k):H6 E own pp gb c w vS vM sl ml g1 w2 (Ls.set n y):=by
 obtain ⟨own1,a,f,g⟩:=h;exact ⟨own1,a.set d b j i,f,g.trans b (fun k l e=>by have:=((a.tx n x d).ge e).1;omega)⟩
theorem H6.tx (h:H6 E own pp gb c w vS vM sl ml g1 w1 Ls) {n:Nat} {x:Value×List (List UInt8)} (b:Ls[n]? =some x):LJ w.heap.size w1 x.1 x.2:=by
 obtain ⟨own1,a,_,_⟩:=h;exact a.tx n x b
theorem H6.zz (h:H6 E own pp gb c w vS vM sl ml g1 w1 Ls):w.heap.size≤w1.heap.size:=by
 obtain ⟨own1,a,_,_⟩:=h;exact a.zz
theorem H6.more (h:H6 E own pp gb c w vS vM sl ml g1 w1 Ls) {n:Nat} {v:Value} {l:List (List UInt8)} (d:Ls[n]? =some (v,l)) {o:Nat} {u:Value} {x:List (List UInt8)} (g:LJ o w1 u x) (f:l.length≤255) (b:x.length≤255):∃a w2,(Builtin.append_ #[25,25] 25 #[v,u]).run Tryz.prog w1= .ok a w2∧H6 E own pp gb c w vS vM sl ml g1 w2 (Ls.set n (a,l++x))∧aH (fun k=>v.ownBlock=some k) w1 w2:=by
 obtain ⟨a,w2,i,j,e,m⟩:=(h.tx d).more g f b h.zz;exact ⟨a,w2,i,h.set d e j m,e⟩
theorem H6.one (h:H6 E own pp gb c w vS vM sl ml g1 w1 Ls) {n:Nat} {v:Value} {l:List (List UInt8)} (b:Ls[n]? =some (v,l)) (y:List UInt8) (d:l.length≤255):∃q a w2,(Builtin.append_ #[25,25] 25 #[v,.slice (some ⟨w1.heap.size,0,none⟩) 1 1]).run Tryz.prog (w1.alloc (.cells #[.string (bs y)] 9))= .ok (.slice (some ⟨q,0,none⟩) (l.length+1) a) w2∧H6 E own pp gb c w vS vM sl ml g1 w2 (Ls.set n (.slice (some ⟨q,0,none⟩) (l.length+1) a,l++[y])):=by
 obtain ⟨q,a,w2,f,g,i,j⟩:=(h.tx b).one y d h.zz;refine ⟨q,a,w2,f,h.set b i g (fun k e=>?_)⟩;have e:q=k:=by simpa [Value.ownBlock] using e
 rw [←e];exact j
theorem H6.cell (h:H6 E own pp gb c w vS vM sl ml g1 w1 Ls) {b:Nat} (d:b < w.heap.size) (e:¬(b=pp∨own b∨fX gb vS vM b)) (j:Nat):w1.cell? ⟨b,j,none⟩=w.cell? ⟨b,j,none⟩:=by
 obtain ⟨own1,_,_,a⟩:=h;exact World.cell?_of_block (a.block b d e)
theorem L9 (h:gX E own pp gb c w vS vM sl ml g1) {t:aQ} (f:g1.tk=some t):Calls Tryz.prog 26 #[.pointer (some ⟨gb,0,none⟩)] w fun e g=>e= .returned (.tuple #[])∧tB E own pp gb c w vS vM sl ml (Bt c g1 t) g:=by
 have o:=h.cells.1;have b:=h.post;rw [f] at b
 have k:Hid (Calls Tryz.prog 21 #[.pointer (some ⟨pp,0,none⟩)] w fun e g=>e= .returned (.int .i64 0)∧tB E own pp gb c w vS vM sl ml (Bt c g1 t) g):=Lib.hid (by
  refine b.hang.mono ?_;rintro e w2 ⟨rfl,d⟩;obtain ⟨a,l,m,n⟩:=h.call d (h.post.laters.2 t f).2
  exact ⟨rfl,a,l,m,n⟩)
 clear b h f;go_enter Tryz.func26,Tryz.ntmps26;go_wp2_with fail
 refine k.out.mono ?_;rintro e w2 ⟨rfl,i⟩;have j:=Lib.hid i;clear i;go_wp2_with fail
 refine bodyPost_end (results_none rfl _ _ _) rfl ?_;exact ⟨rfl,j.out⟩
end
end Go.Proofs.YtofpegbpgkkgkaaGreatDoor
