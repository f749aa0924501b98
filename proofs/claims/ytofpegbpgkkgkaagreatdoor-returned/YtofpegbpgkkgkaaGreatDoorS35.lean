import Derived.Test.YtofpegbpgkkgkaaGreatDoorS31
namespace Go.Proofs.YtofpegbpgkkgkaaGreatDoor
set_option maxHeartbeats 8000000
set_option maxRecDepth 1000000
open Go.RowKit
section
variable {E own:Nat→Prop} {pp gb:Nat} {c:bX} {w w3:World} {vS vM:Value} {sl:List (j0×Value)} {ml:List (aX×Value)} {g g' g'':GS}
end
section
variable {E own:Nat→Prop} {pp gb:Nat} {c:bX} {w:World} {vS vM:Value} {sl:List (j0×Value)} {ml:List (aX×Value)} {g:GS}
end
def cX (E own:Nat→Prop) (pp gb:Nat) (c:bX) (w:World) (vS vM:Value) (g':GS) (w':World):Prop:=
 ∃own' vS' vM' sl' ml',gX E own' pp gb c w' vS' vM' sl' ml' g'∧(∀k,own' k∨fX gb vS' vM' k→own k∨fX gb vS vM k∨w.heap.size≤k)∧aH (fun k=>k=pp∨own k∨fX gb vS vM k) w w'
section
variable {E own own1:Nat→Prop} {pp gb:Nat} {c:bX} {w w1 w2:World} {vS vM vS1 vM1:Value} {sl sl1:List (j0×Value)} {ml ml1:List (aX×Value)} {g g':GS}
theorem cX.refl (h:gX E own pp gb c w vS vM sl ml g):cX E own pp gb c w vS vM g w:=⟨own,vS,vM,sl,ml,h,fun _ e=>e.imp id .inl,aH.refl _ _⟩
theorem cX.below (h:gX E own pp gb c w vS vM sl ml g) (a:Below w.heap.size w w1):cX E own pp gb c w vS vM g w1:=⟨own,vS,vM,sl,ml,h.below a,fun _ e=>e.imp id .inl,aH.below a⟩
theorem cX.from (j:Below w.heap.size w w1) (h:cX E own pp gb c w1 vS vM g' w2):cX E own pp gb c w vS vM g' w2:=by
 obtain ⟨a,i,f,d,b,l,m,n⟩:=h
 exact ⟨a,i,f,d,b,l,fun k e=>by
  rcases m k e with x | x | x
  ·exact .inl x
  ·exact .inr (.inl x)
  ·exact .inr (.inr (Nat.le_trans j.size x)),(aH.below j).trans n (fun _ _ e=>e)⟩
theorem cX.then (d:∀k,own1 k∨fX gb vS1 vM1 k→own k∨fX gb vS vM k∨w.heap.size≤k) (m:aH (fun k=>k=pp∨own k∨fX gb vS vM k) w w1) (h:cX E own1 pp gb c w1 vS1 vM1 g' w2):cX E own pp gb c w vS vM g' w2:=by
 obtain ⟨b,l,j,i,f,n,o,p⟩:=h
 have a:∀k,own1 k∨fX gb vS1 vM1 k∨w1.heap.size≤k→own k∨fX gb vS vM k∨w.heap.size≤k:=fun k e=>by
  rcases e with e | e | e
  ·exact d k (.inl e)
  ·exact d k (.inr e)
  ·exact .inr (.inr (Nat.le_trans m.size e))
 refine ⟨b,l,j,i,f,n,fun k e=>a k (o k e),m.trans p (fun k q e=>?_)⟩
 rcases e with e | e | e
 ·exact .inl e
 ·rcases d k (.inl e) with x | x | x
  ·exact .inr (.inl x)
  ·exact .inr (.inr x)
  ·omega
 ·rcases d k (.inr e) with x | x | x
  ·exact .inr (.inl x)
  ·exact .inr (.inr x)
  ·omega
theorem cX.called (b:∀k,own1 k→own k∨w.heap.size≤k) (a:aH (fun k=>k=pp∨own k) w w1) (h:cX E own1 pp gb c w1 vS vM g' w2):cX E own pp gb c w vS vM g' w2:=
 cX.then (fun k e=>e.elim (fun e=>(b k e).imp id .inr) (fun e=> .inr (.inl e))) (a.mono (fun _ _ e=>e.imp id .inl)) h
end
def kN (n:Int):Prop:= -9223372036854775808≤n∧n≤9223372036854775807
def GW (base:Nat) (E:Nat→Prop) (pp gb:Nat) (c:bX) (g:GS) (w:World):Prop:=∃own vS vM sl ml,gX E own pp gb c w vS vM sl ml g∧∀k,k=pp∨own k∨fX gb vS vM k→base≤k
theorem GW.to {a:Nat} {E own:Nat→Prop} {i f:Nat} {c:bX} {o:GS} {w n:World} {q p:Value} (d:∀k,k=i∨own k∨fX f q p k→a≤k) (u:a≤w.heap.size) (h:cX E own i f c w q p o n):GW a E i f c o n∧Below a w n:=by
 obtain ⟨b,m,l,j,g,r,s,t⟩:=h;refine ⟨⟨b,m,l,j,g,r,fun k e=>?_⟩,t.toBelow (fun k e=>d k e) u⟩
 rcases e with e | e
 ·exact d k (.inl e)
 ·rcases s k e with x | x | x
  ·exact d k (.inr (.inl x))
  ·exact d k (.inr (.inr x))
  ·omega
theorem GW.below {base:Nat} {E:Nat→Prop} {b a:Nat} {c:bX} {g:GS} {w d:World} (h:GW base E b a c g w) (i:Below w.heap.size w d):GW base E b a c g d:=by
 obtain ⟨own,m,l,k,j,e,f⟩:=h;exact ⟨own,m,l,k,j,e.below i,f⟩
theorem iT.at {s:Nat} {w:World} {v:Value} {a:List (aX×Nat)} {f:List aX} (h:iT s w v a) (e:a.map (·.1)=f) {j:Nat} (M:j < f.length):∃l t n,v= .slice (some ⟨l,0,none⟩) f.length t∧(s≤l∧l < w.heap.size)∧(s≤n∧n < w.heap.size)∧w.cell? ⟨l,j * 5,none⟩=some (.int .i64 f[j].id)∧w.cell? ⟨l,j * 5+2,none⟩=some (.string (bs f[j].frm))∧w.cell? ⟨l,j * 5+3,none⟩=some (.slice (some ⟨n,0,none⟩) f[j].tos.length f[j].tos.length)∧w.cell? ⟨l,j * 5+4,none⟩=some (.string (bs f[j].body))∧∀k (q:k < f[j].tos.length),w.cell? ⟨n,k,none⟩=some (.string (bs f[j].tos[k])):=by
 subst e;have C:j < a.length:=by simpa using M
 have z:j < (a.map gW).length:=by rw [List.length_map];exact C
 have I:(a.map (·.1))[j]=a[j].1:=by simp
 rw [I,List.length_map]
 rcases h.row.2 with ⟨_,O⟩ | ⟨l,F,G,e,K,B,_,_,_,A⟩
 ·omega
 ·have b:∀i,i < 5→w.cell? ⟨l,j * 5+i,none⟩=(aY a[j].1 (gW a[j]).2)[i]? :=fun i L=>by
   rw [Lib.cell_of_heap B,←Array.getElem?_toList,←List.getElem?_take_of_lt (show j * 5+i < a.length * 5 by omega),A,lU _ _ _ z L,List.getElem_map];rfl
  have D:=h.tos a[j] (List.getElem_mem C);obtain ⟨⟨m,n⟩,J⟩:∃r,a[j]=r:=⟨_,rfl⟩;rw [J] at b D ⊢;have N:0 < m.tos.length∨m.tos.length=0:=by omega
  rcases D.2 with ⟨H,_⟩ | ⟨g2,u,o,x,y,p,_,_,_,d⟩
  ·cases H
  ·have x:Value.slice (some ⟨n,0,none⟩) m.tos.length m.tos.length= .slice (some ⟨g2,0,none⟩) m.tos.length u:=x;injection x with e3 _ _;injection e3 with e3;injection e3 with e3;subst e3;refine ⟨l,F,n,e,⟨K,ah B⟩,⟨y,ah p⟩,b 0 (by omega),b 2 (by omega),b 3 (by omega),b 4 (by omega),fun k q=>?_⟩;have q:k < m.tos.length:=q;rw [Lib.cell_of_heap p,←Array.getElem?_toList,←List.getElem?_take_of_lt (show k < m.tos.length * 1 by omega)];have d:o.toList.take (m.tos.length * 1)=cm m.tos:=d;rw [d,eh _ _ q]
section
variable {E own:Nat→Prop} {pp gb:Nat} {c:bX} {w w0 w1:World} {vS vM:Value} {sl:List (j0×Value)} {ml:List (aX×Value)} {g:GS}
theorem tB.cell (h:tB E own pp gb c w vS vM sl ml g w1) {s b:Nat} (f:∀k,s≤k→k < w.heap.size→¬(k=pp∨own k)) (a:s≤b∧b < w.heap.size) (j:Nat):w1.cell? ⟨b,j,none⟩=w.cell? ⟨b,j,none⟩:=by
 obtain ⟨d,_,_,e⟩:=h;exact World.cell?_of_block (e.block b a.2 (f b a.1 a.2))
theorem tB.fin (h:tB E own pp gb c w vS vM sl ml g w1) {t:aQ} (i:g.tk=some t) (r:t.said=6) (a:Nat) (q:200≤a∧a≤599):
  Calls Tryz.prog 33 #[.pointer (some ⟨pp,0,none⟩),.int .i64 (a:Int)] w1 fun e s=>e= .returned (.tuple #[.string ⟨#[]⟩,.int .i64 0])∧tB E own pp gb c w vS vM sl ml (Bt c g t) s:=by
 obtain ⟨j,b,l,m⟩:=h;have f:=b.post;rw [i] at f;refine (f.ansEnd r a q).mono ?_;rintro e u ⟨rfl,d⟩;obtain ⟨k,n,o,p⟩:=b.call d (b.post.laters.2 t i).2;exact ⟨rfl,tB.then l m n o p⟩
theorem Lh {S:bp} {i:Nat} (b:dQ (S.mailOf i)):∀r∈S.stayOf i,r.2.length≤255:=fun r a=>by
 unfold bp.stayOf stay at a;obtain ⟨k,_,rfl⟩:=List.mem_map.1 a;exact nQ b.2.2.2.2.1 k
end
section
variable {E own:Nat→Prop} {pp gb:Nat} {c:bX} {w:World} {vS vM:Value} {sl:List (j0×Value)} {ml:List (aX×Value)} {g:GS}
theorem gX.tickB (h:gX E own pp gb c w vS vM sl ml g) (A:g.tk=none) (T:Nat) (s:g.S.time≤T∧T≤1000000000) {n:World} (u:Below (w.setCell ⟨gb,12,none⟩ (.int .i64 (T:Int))).heap.size (w.setCell ⟨gb,12,none⟩ (.int .i64 (T:Int))) n):
  Calls Tryz.prog 23 #[.pointer (some ⟨pp,0,none⟩),.int .i64 (T:Int)] n fun e j=>e= .returned (.int .i64 0)∧∃a,gX E a pp gb c j vS vM sl ml (yj c g T)∧(∀k,a k→own k∨w.heap.size≤k)∧aH (fun k=>k=pp∨own k∨fX gb vS vM k) w j:=by
 have d:aH (fun k=>k=gb) w (w.setCell ⟨gb,12,none⟩ (.int .i64 (T:Int))):=aH.same ((aL.refl _ _).setCell _);have f:fX gb vS vM gb:= .inl rfl;obtain ⟨C,F,G,H,I,J,L,K⟩:=h.blk;have o:=heap_setCell_same w gb 12 _ _ (.int .i64 (T:Int)) F;have o:=ae u o;have d:aH (fun k=>k=gb) w n:=d.trans (aH.below u:aH (fun _=>False) _ n) (fun _ _ e=>e.elim);have z:=h.post.chg d (fun k e x=>(h.off gb f).2.1 (by rw [←x];exact e)) (fun k e x=>(h.off gb f).2.2 (by rw [←x];exact e));rw [A] at z;refine (z.tick T s).mono ?_;rintro e j ⟨rfl,a,r,B,i⟩;have b:∀k,fX gb vS vM k→¬(k=pp∨own k):=fun k e x=>x.elim (fun x=>(h.off k e).2.1 (by rw [x];exact h.post.epp)) (h.off k e).2.2;have y:∀k,a k→own k∨w.heap.size≤k:=fun k e=>(B k e).imp id (Nat.le_trans d.size);have l:∀k,fX gb vS vM k→k < j.heap.size∧¬E k∧¬a k:=fun k e=>⟨Nat.lt_of_lt_of_le (h.off k e).1 (Nat.le_trans d.size i.size),(h.off k e).2.1,fun x=>(y k x).elim (h.off k e).2.2 (fun x=>by have:=(h.off k e).1;omega)⟩;have D:∀{m:List (List UInt8)} {v:Value},iE E own gb vS vM w m v→iE E a gb vS vM j m v:=fun t=>((t.chg (own':=own) (vS':=vS) (vM':=vM) d (fun k e x=>(t.off k e).2.2.2 (.inl x)) (fun k e=> .inl e) (fun k e=> .inl e)).chg i (fun k e x=>x.elim (fun x=>(t.off k e).2.1 (by rw [x];exact h.post.epp)) (t.off k e).2.2.1) B (fun k e=> .inl e));have p:(yj c g T).S.time=T:=(h.post.laters.1 T s).2
 have r:iC E a pp c j (yj c g T).S (yj c g T).recs (yj c g T).l (yj c g T).tk (yj c g T).d:=by
  have e:(yj c g T).tk=none:=A;rw [e];exact r
 refine ⟨rfl,a,⟨r,⟨_,i.some_ o (b _ f),by simpa using G,by rw [Array.getElem?_setIfInBounds_ne (by decide)];exact H,by rw [Array.getElem?_setIfInBounds_ne (by decide)];exact I,by rw [Array.getElem?_setIfInBounds_ne (by decide)];exact J,by rw [Array.getElem?_setIfInBounds_self_of_lt (by omega),p],by rw [Array.getElem?_setIfInBounds_ne (by decide)];exact K⟩,bC (bC h.srow d (fun k e=>((h.tag).1 k e).1)) i (fun k e=>b k (.inr (.inl e))),bC (bC h.mrow d (fun k e=>(h.tag).2 k e)) i (fun k e=>b k (.inr (.inr e))),h.seq,h.meq,fun x q=>D (h.stos x q),fun x q=>D (h.mtos x q),l⟩,y,(d.mono (fun k _ e=>by rw [e];exact .inr (.inr f))).trans i (fun k _ e=>e.imp id .inl)⟩
end
end Go.Proofs.YtofpegbpgkkgkaaGreatDoor
