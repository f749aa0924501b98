import Derived.Test.YtofpegbpgkkgkaaGreatDoorS09
import Derived.Test.YtofpegbpgkkgkaaGreatDoorS11
import Derived.Test.YtofpegbpgkkgkaaGreatDoorS12
import Derived.Orders
namespace Go.Proofs.YtofpegbpgkkgkaaGreatDoor
set_option maxHeartbeats 8000000
set_option maxRecDepth 1000000
open Go.RowKit
def JE (b:Bool) (w:World) (e:Ending) (w':World):Prop:=e= .returned (.bool b)∧∃n,w'=w.drewN n
theorem JE.mk {b:Bool} {w:World} {e:Ending} {a:World} (c:Bool) (f:e= .returned (.bool c)) (d:b=c) (n:Nat) (g:a=w.drewN n):JE b w e a:=⟨by rw [f,d],n,g⟩
def ji (l:List UInt8):Option (List UInt8×List UInt8):=
 (fZ 4 l).bind fun a=>(fZ 4 a.2).bind fun b=>(bm a.1 b.2).bind fun c=>if sV c.1=b.1 then some c else none
def mI (o:Option (List UInt8×List UInt8)):Value:=
 match o with
 | some c=> .tuple #[.string (bs c.1),.string (bs c.2),.bool true]
 | none=> .tuple #[.string (bs []),.string (bs []),.bool false]
theorem Jb {w:World} {b:Nat} {o:Option (List UInt8)} {l:List UInt8} (h:gG w b o) (e:o=some l):w.cell? ⟨b,0,none⟩=some (.string (bs l))∧w.cell? ⟨b,1,none⟩=some (.bool false):=by
 subst e;exact ⟨by rw [Lib.cell_of_heap h.1];rfl,by rw [Lib.cell_of_heap h.1];rfl⟩
theorem Ja {w:World} {b:Nat} {o:Option (List UInt8)} (h:gG w b o) (e:o=none):w.cell? ⟨b,1,none⟩=some (.bool true):=by
 subst e;obtain ⟨l,h⟩:=h;rw [Lib.cell_of_heap h];rfl
theorem ph {w a c:World} (b:cJ [] w a) (d:aL w.heap.size a c):cJ [] w c:=
 ⟨by rw [d.1];exact b.1,fun k o e n=>by
  rw [d.2 k (by have:=sZ e;omega)];exact b.2 k o e n,b.3.trans d.3⟩
theorem EN (l:List UInt8) {m p s:Option (List UInt8)} {n q:Nat} {C:List UInt8}
  (h:((some l).bind (bm 4)).map (·.2)=m) (j:be (gK ((some l).bind (bm 4)))=n) (f:(m.bind (bm 4)).map (·.2)=p) (k:be (gK (m.bind (bm 4)))=q) (g:(p.bind (bm n)).map (·.2)=s) (o:gK (p.bind (bm n))=C):
  ji l=s.bind fun r=>if sV C=q then some (C,r) else none:=by
 obtain ⟨t,u⟩:=uM 4 (some l);rw [t] at h;rw [u] at j;obtain ⟨v,w⟩:=uM 4 m;rw [v] at f;rw [w] at k;have i:ji l=(fZ 4 l).bind fun a=>(fZ 4 a.2).bind fun b=>(bm a.1 b.2).bind fun c=>if sV c.1=b.1 then some c else none:=rfl;have A:(some l).bind (fZ 4)=fZ 4 l:=rfl;rw [A] at h j
 cases x:fZ 4 l with
 | none=>
  rw [x] at h i;subst h f g;rw [i];rfl
 | some a=>
  rw [x] at h j i;subst h j;have B:((some a).map (·.2)).bind (fZ 4)=fZ 4 a.2:=rfl;rw [B] at f k;have d:ji l=(fZ 4 a.2).bind fun b=>(bm a.1 b.2).bind fun c=>if sV c.1=b.1 then some c else none:=i
  cases y:fZ 4 a.2 with
  | none=>
   rw [y] at f d;subst f g;rw [d];rfl
  | some b=>
   rw [y] at f k d;subst f k;have D:((some b).map (·.2)).bind (bm (((some a).map (·.1)).getD 0))=bm a.1 b.2:=rfl;rw [D] at g o;have e:ji l=(bm a.1 b.2).bind fun c=>if sV c.1=b.1 then some c else none:=d
   cases z:bm a.1 b.2 with
   | none=>
    rw [z] at g e;subst g;rw [e];rfl
   | some c=>
    rw [z] at g o e;subst g o;rw [e];rfl
theorem Dy (l:List UInt8) (w:World) (hl:l.length≤maxLen):
  Calls Tryz.prog 74 #[.string (bs l)] w fun e m=>e= .returned (mI (ji l))∧cJ [] w m:=by
 obtain ⟨q,c⟩:∃q:World,w.alloc (.cells #[.string (bs l),.bool false] 187)=q:=⟨_,rfl⟩;have F:Hid (gG q w.heap.size (some l)):=Lib.hid ⟨by rw [←c];exact heap_alloc_new w _,hl⟩
 have W:Hid (cJ [] w q):=Lib.hid (by rw [←c];exact (cJ.refl _ w).alloc _);have G:=Lib.hid c;clear c
 have I:∀o:Option (List UInt8),be (gK (o.bind (bm 4)))≤4294967295:=fun o=>by
  have s:(gK (o.bind (bm 4))).length≤4:=by
   cases e:o.bind (bm 4) with
   | none=>simp [gK]
   | some x=>
    obtain ⟨l,b,a⟩:=cC e;obtain ⟨y,r⟩:=x;have:=(jH a).2.2.2;show y.length≤4;omega
  have:=sQ s;omega
 obtain ⟨t,J⟩:∃t,((some l).bind (bm 4)).map (·.2)=t:=⟨_,rfl⟩;obtain ⟨g,z⟩:∃g,be (gK ((some l).bind (bm 4)))=g:=⟨_,rfl⟩;obtain ⟨n,K⟩:∃n,(t.bind (bm 4)).map (·.2)=n:=⟨_,rfl⟩;obtain ⟨f,A⟩:∃f,be (gK (t.bind (bm 4)))=f:=⟨_,rfl⟩;obtain ⟨P,L⟩:∃P,(n.bind (bm g)).map (·.2)=P:=⟨_,rfl⟩;obtain ⟨C,v⟩:∃C,gK (n.bind (bm g))=C:=⟨_,rfl⟩;have u:=Lib.hid (EN l J z K A L v);have a1:g≤4294967295:=by rw [←z];exact I _
 have a2:f≤4294967295:=by rw [←A];exact I _
 have a0:C.length≤4294967295:=by
  rw [←v]
  cases e:n.bind (bm g) with
  | none=>simp [gK]
  | some x=>
   obtain ⟨l,b,a⟩:=cC e;obtain ⟨y,r⟩:=x;have:=(jH a).2.2.2;show y.length≤_;omega
 have i:=dZ w.heap.size 4 (some l) q F.out (by decide);have j:=fun m M=>dZ w.heap.size 4 t m M (by decide);have k:=fun m M=>iY w.heap.size g n m M (by unfold maxLen;omega);have d:=fun m=>vA (bs C) m (by rw [aG];unfold maxLen;omega);rw [J,z] at i;rw [K,A] at j;rw [L,v] at k;rw [aI] at d;have N:sV C≤4294967295:=by unfold sV;omega
 obtain ⟨Q,S⟩:∃Q,sV C=Q:=⟨_,rfl⟩;rw [S] at d N u;have B:=Lib.hid j;have D:=Lib.hid k;have E:=Lib.hid d;have sC:=aG C;clear J z K A L v j k d S I;go_enter Tryz.func74,Tryz.ntmps74;go_wp2_with fail
 rw [G.out];refine i.mono ?_;rintro e w1 ⟨rfl,b,a⟩;have U:=Lib.hid b;have X:=Lib.hid (ph W.out a);clear i b a;go_wp2_with fail
 refine (B.out _ U.out).mono ?_;rintro e w2 ⟨rfl,b,a⟩;have V:=Lib.hid b;have Y:=Lib.hid (ph X.out a);clear b a;go_wp2_with fail
 refine (D.out _ V.out).mono ?_;rintro e w3 ⟨rfl,b,a⟩;have R:=Lib.hid b;have H:=Lib.hid (ph Y.out a);clear b a
 cases P with
 | none=>
  have Z:=Ja R.out rfl;have p:Hid (mI (ji l)= .tuple #[.string (bs []),.string (bs []),.bool false]):=Lib.hid (by rw [u.out];rfl);go_wp2_with fail
  go_ret3
  exact ⟨by rw [p.out];rfl,H.out⟩
 | some r=>
  obtain ⟨c0,Z⟩:=Jb R.out rfl;go_wp2_with fail
  refine (E.out _).mono ?_;rintro e w4 ⟨rfl,rfl⟩;go_wp2_with fail
  ·rename_i h
   have O:¬Q=f:=by simp at h;omega
   have p:Hid (mI (ji l)= .tuple #[.string (bs []),.string (bs []),.bool false]):=Lib.hid (by
    rw [u.out];show mI (if Q=f then some (C,r) else none)=_
    rw [if_neg O];rfl)
   go_ret3
   exact ⟨by rw [p.out];rfl,H.out⟩
  ·have h:((Q:Int) != (f:Int))=false:=by assumption
   have T:Q=f:=by simp at h;omega
   have p:Hid (mI (ji l)= .tuple #[.string (bs C),.string (bs r),.bool true]):=Lib.hid (by
    rw [u.out];show mI (if Q=f then some (C,r) else none)=_
    rw [if_pos T];rfl)
   clear h T;go_quiet (fail)
   go_wp2_with fail
   go_ret3
   exact ⟨by rw [p.out];rfl,H.out.drewN _⟩
def dz:Nat→aa→Nat→List UInt8→aa×Nat
 | 0,S,k,_=>(S,k)
 | f+1,S,k,l=>
  match ji l with
  | none=>(S,k)
  | some c=>match S.takes c.1 with
   | none=>(S,k)
   | some S'=>dz f S' (k+8+c.1.length) c.2
def bw (l:List UInt8):aa×Nat:=dz (l.length+1) ⟨[],0⟩ 0 l
theorem gP {f k:Nat} {S:aa} {l:List UInt8} (h:ji l=none):dz (f+1) S k l=(S,k):=by
 rw [dz,h]
theorem jf {f k:Nat} {S:aa} {l:List UInt8} {c:List UInt8×List UInt8} (h:ji l=some c) (a:S.takes c.1=none):dz (f+1) S k l=(S,k):=by
 rw [dz,h];simp only [a]
theorem fP {f k:Nat} {S a:aa} {l:List UInt8} {c:List UInt8×List UInt8} (h:ji l=some c) (b:S.takes c.1=some a):dz (f+1) S k l=dz f a (k+8+c.1.length) c.2:=by
 rw [dz,h];simp only [b]
theorem pI (l:List UInt8):ji l=if l.length < 8+be (l.take 4)∨¬be ((l.drop 4).take 4)=sV ((l.drop 8).take (be (l.take 4))) then none else some ((l.drop 8).take (be (l.take 4)),(l.drop 8).drop (be (l.take 4))):=by
 have e:(l.drop 4).drop 4=l.drop 8:=by rw [List.drop_drop]
 have g:(l.drop 8).length=l.length - 8:=List.length_drop;unfold ji fZ
 by_cases c:4≤l.length
 ·rw [if_pos c];simp only [sb]
  by_cases a:4≤(l.drop 4).length
  ·rw [if_pos a];simp only [sb];rw [e];unfold bm;rw [List.length_drop] at a;obtain ⟨r,f⟩:∃r,l.drop 8=r:=⟨_,rfl⟩;rw [f] at g ⊢
   by_cases d:be (l.take 4)≤r.length
   ·rw [if_pos d];simp only [sb]
    by_cases b:sV (r.take (be (l.take 4)))=be ((l.drop 4).take 4)
    ·rw [if_pos b,if_neg (by
      rintro (h | h)
      ·omega
      ·exact h b.symm)]
    ·rw [if_neg b,if_pos (.inr (fun h=>b h.symm))]
   ·rw [if_neg d,if_pos (.inl (by omega))];rfl
  ·rw [if_neg a];rw [List.length_drop] at a;rw [if_pos (.inl (by omega))];rfl
 ·rw [if_neg c,if_pos (.inl (by omega))];rfl
theorem uV (S:aa) (K:Nat) (a:List Nat):(S.outs K a).items.length=S.items.length∧(S.outs K a).time=S.time:=by
 unfold aa.outs;simp
theorem yV (S:aa) (m:aX) (a:List Nat) (T:Nat):(S.failed m a T).items.length≤S.items.length+1∧(S.failed m a T).time=T:=by
 unfold aa.failed
 split <;> simp
theorem rY {S d:aa} {l:List UInt8} (h:S.takes l=some d) (f:S.time≤1000000000):d.items.length≤S.items.length+1∧d.time≤1000000000:=by
 cases l with
 | nil=>cases h
 | cons c r=>
  unfold aa.takes at h;simp only at h
  split at h
  ·split at h
   ·rename_i b
    injection h with h;subst h;rw [Bool.and_eq_true] at b;have a:=b.1;unfold qp at a;simp only [Bool.and_eq_true,decide_eq_true_eq] at a;exact ⟨by simp,a.1.1.1.1.1.2⟩
   ·cases h
  ·split at h
   ·split at h
    ·injection h with h;subst h;have:=uV S ((bI r).1 - 1) (bI r).2;exact ⟨by omega,by omega⟩
    ·cases h
   ·split at h
    ·split at h
     ·rename_i b
      injection h with h;subst h;simp only [Bool.and_eq_true,decide_eq_true_eq] at b;have a:=uV S ((bI (r.drop 4)).1 - 1) (bI (r.drop 4)).2;have e:=yV (S.outs ((bI (r.drop 4)).1 - 1) (bI (r.drop 4)).2) (S.mailOf ((bI (r.drop 4)).1 - 1)) (bI (r.drop 4)).2 (be (r.take 4));exact ⟨by omega,by omega⟩
     ·cases h
    ·cases h
theorem ku {l:List UInt8} {c:List UInt8×List UInt8} (h:ji l=some c):l.length=8+c.1.length+c.2.length:=by
 rw [pI] at h
 split at h
 ·cases h
 ·rename_i a
  injection h with h;subst h;simp only [List.length_take,List.length_drop];have:¬l.length < 8+be (l.take 4):=fun e=>a (.inl e);omega
theorem ye:∀(f k:Nat) (S:aa) (l:List UInt8),8 * S.items.length≤k→S.time≤1000000000→8 * (dz f S k l).1.items.length≤(dz f S k l).2∧(dz f S k l).2≤k+l.length∧(dz f S k l).1.time≤1000000000
 | 0,k,S,l,h,ht=>⟨h,by rw [dz];omega,ht⟩
 | f+1,k,S,l,h,ht=>by
  cases a:ji l with
  | none=>rw [gP a];exact ⟨h,by show k≤_;omega,ht⟩
  | some c=>
   cases b:S.takes c.1 with
   | none=>rw [jf a b];exact ⟨h,by show k≤_;omega,ht⟩
   | some S'=>
    have e:=rY b ht;have g:=ku a;have d:=ye f (k+8+c.1.length) S' c.2 (by omega) e.2;rw [fP a b];exact ⟨d.1,by omega,d.2.2⟩
theorem FH (l:List UInt8):8 * (bw l).1.items.length≤(bw l).2∧(bw l).2≤l.length∧(bw l).1.time≤1000000000:=by
 have:=ye (l.length+1) 0 ⟨[],0⟩ l (by simp) (by simp);unfold bw;omega
open Go.Lib (bytesWorld bytesWorld_size bytesWorld_at_old bytesWorld_cell)
def kl (w:World) (v:Value) (l:List UInt8):Prop:=∃g cap cur z,v= .slice (some ⟨g,0,none⟩) l.length cap∧w.heap[g]? =some (.cells cur 5 z)∧(∀j,j < l.length→w.cell? ⟨g,j,none⟩=some (.int .u8 (l.getD j 0).toNat))∧cap≤z.1∧l.length≤cap∧cap≤maxLen∧cur.size=cap∧cur.toList.take l.length=Lib.byteCells l
theorem kl.moves {w f:World} {v:Value} {l:List UInt8} (h:kl w v l) (m:∀(g:Nat) (a:Array Value) (z:Nat×Nat),w.heap[g]? =some (.cells a 5 z)→f.heap[g]? =some (.cells a 5 z)):kl f v l:=by
 obtain ⟨g,c,a,z,e,d,i,n⟩:=h;have b:=m g a z d;exact ⟨g,c,a,z,e,b,fun j k=>(World.cell?_of_block (w:=w) (b.trans d.symm)).trans (i j k),n⟩
theorem kl.keep {w a:World} {v:Value} {l:List UInt8} (h:kl w v l) (b:Below w.heap.size w a):kl a v l:=h.moves fun _ _ _ e=>ae b e
theorem bh.nil {w:World}:bh w.heap.size ((w.alloc (.map #[] 0)).alloc (.cells #[.slice none 0 0,.int .i64 0,.int .i64 0,.map (some w.heap.size)] 117)) (w.heap.size+1) w.heap.size (fun _=>0) (.slice none 0 0) ⟨[],0⟩:=by
 have b:((w.alloc (.map #[] 0)).alloc (.cells #[.slice none 0 0,.int .i64 0,.int .i64 0,.map (some w.heap.size)] 117)).heap[w.heap.size+1]? =some (.cells #[.slice none 0 0,.int .i64 0,.int .i64 0,.map (some w.heap.size)] 117 (0,0)):=by
  have:=heap_alloc_new (w.alloc (.map #[] 0)) (.cells #[.slice none 0 0,.int .i64 0,.int .i64 0,.map (some w.heap.size)] 117);simpa using this
 refine ⟨b,?_,by omega,Nat.le_refl _,fun i a=>?_,fun i a=>?_⟩
 ·exact ae ((Below.refl _ _).alloc (Nat.le_refl _) _) (heap_alloc_new w (.map #[] 0))
 ·have:=bq a;simp at this
 ·have:=bq a;simp at this
theorem mO {W:World} {e:TypeId} {x:ByteArray}:Below W.heap.size W (bytesWorld W e x):=
 ⟨by simp [bytesWorld,World.freeze,World.alloc,World.drew, -World.alloc_eq, -World.drew_eq],by simp [bytesWorld,World.freeze,World.alloc,World.drew, -World.alloc_eq, -World.drew_eq],by simp [bytesWorld,World.freeze,World.alloc,World.drew, -World.alloc_eq, -World.drew_eq],by rw [bytesWorld_size];omega,fun k a=>bytesWorld_at_old W e x k a⟩
theorem mu (W:World) (e:TypeId) (x:ByteArray):(Lib.bytesCells W e x).size=grownCap W x.size 0 e:=by
 have:=grownCap_ge W x.size 0 e;simp only [Lib.bytesCells,Array.size_append,Array.size_map,Array.size_replicate];have a:x.data.size=x.size:=rfl;omega
theorem sr (W:World) (e:TypeId) (l:List UInt8):(Lib.bytesCells W e (bs l)).toList.take l.length=Lib.byteCells l:=by
 have a:(bs l).data.toList=l:=aI l;simp only [Lib.bytesCells,Array.toList_append,Array.toList_map,a,Lib.byteCells];rw [List.take_append_of_le_length (by simp),List.take_of_length_le (by simp)]
theorem Bx {s b g k:Nat} {q:Nat→Nat} {p:Value} {S:aa} {w W:World} {l:List UInt8} (h:bh s W b g q p S) (m:Below s w W):
  let v:=Value.slice (some ⟨W.heap.size,0,none⟩) (bs (l.take k)).size (grownCap W (bs (l.take k)).size 0 5)
  let a:=(bytesWorld W 5 (bs (l.take k))).setCell ⟨b,0,none⟩ v
  (l.take k).length≤maxLen→bh s a b g q v S∧kl a v (l.take k)∧Below s w a:=by
 intro v a d;have f:=h.keep (mO (e:=5) (x:=bs (l.take k)));have c:aL b (bytesWorld W 5 (bs (l.take k))) a:=(aL.refl _ _).setCell _;have o:=h.pblt;refine ⟨f.timed (T:=S.time) c (heap_setCell_same _ b 0 _ _ v f.bag),⟨W.heap.size,_,_,_,by rw [←aG],aP c (Lib.bytesWorld_at_new W 5 _) (by omega),fun j n=>?_,?_,?_,?_,?_,?_⟩,?_⟩
 ·have i:a.cell? ⟨W.heap.size,j,none⟩=(bytesWorld W 5 (bs (l.take k))).cell? ⟨W.heap.size,j,none⟩:=World.cell?_of_block (c.2 W.heap.size (by omega));rw [i,bytesWorld_cell _ _ _ _ (by rw [aG];exact n),aI]
 ·show _≤(Lib.bytesCells W 5 (bs (l.take k))).size;rw [mu];exact Nat.le_refl _
 ·rw [←aG];exact grownCap_ge _ _ _ _
 ·exact grownCap_le_maxLen _ _ _ _ (by rw [aG];exact d)
 ·exact mu _ _ _
 ·exact sr _ _ _
 ·exact (m.trans (mO.mono h.le)).trans (c.below h.pbb)
theorem xA {l:List UInt8} {c:List UInt8×List UInt8} (h:ji l=some c):c.2=l.drop (8+c.1.length):=by
 rw [pI] at h
 split at h
 ·cases h
 ·rename_i b
  cases h
  have a:((l.drop 8).take (be (l.take 4))).length=be (l.take 4):=by rw [List.length_take,List.length_drop];omega
  simp only;rw [a,List.drop_drop]
theorem Ab (l:List UInt8) (n:Int) (w:World) (hl:l.length≤536870912) (hm:w.cell? ⟨0,0,none⟩=some (.int .i64 n)):
  Calls Tryz.prog 44 #[.string (bs l)] w fun e E=>∃pb mb q vr,e= .returned (.pointer (some ⟨pb,0,none⟩))∧bh w.heap.size E pb mb q vr (bw l).1∧(bw l).1.Ok∧kl E vr (l.take (bw l).2)∧(∀g,vr.ownBlock=some g→w.heap.size≤g)∧Below w.heap.size w E:=by
 obtain ⟨X,j⟩:∃X:World,(w.alloc (.map #[] 0)).alloc (.cells #[.slice none 0 0,.int .i64 0,.int .i64 0,.map (some w.heap.size)] 117)=X:=⟨_,rfl⟩;have I:Hid (bh w.heap.size X (w.heap.size+1) w.heap.size (fun _=>0) (.slice none 0 0) ⟨[],0⟩):=Lib.hid (by rw [←j];exact bh.nil);have H:Hid (Below w.heap.size w X):=Lib.hid (by rw [←j];exact ((Below.refl _ _).alloc (Nat.le_refl _) _).alloc (by simp) _);have sl:=aG l;have a6:=Lib.hid j;have HM:=Lib.hid hm;have b2:=@run_makeMap Tryz.prog;have b1:∀(W:World) (x:ByteArray),(convert 9 114 (.string x)).run Tryz.prog W= .ok (.slice (some ⟨W.heap.size,0,none⟩) x.size (grownCap W x.size 0 5)) (bytesWorld W 5 x):=fun W x=>Lib.run_convert_string_bytes W _ _ _ x Tryz.underlying9 Tryz.underlying114 Tryz.underlying5;clear j hm;go_enter Tryz.func44,Tryz.ntmps44;go_wp2_with fail
 rw [a6.out];go_loopw [4] (fun v E=>∃(k f:Nat) (S:aa) (q:Nat→Nat),v= .int .i64 k∧k≤l.length∧8 * S.items.length≤k∧Hid (l.length+1≤k+f)∧Hid (S.time≤1000000000)∧Hid S.Ok∧Hid (bh w.heap.size E (w.heap.size+1) w.heap.size q (.slice none 0 0) S)∧Hid (Below w.heap.size w E)∧Hid (bw l=dz f S k (l.drop k))) (fun v _=>l.length - (intOf v).toNat)
 case atStart=>exact ⟨0,l.length+1,⟨[],0⟩,_,rfl,Nat.zero_le _,by simp,Lib.hid (by omega),Lib.hid (by simp),Lib.hid (aa.Ok.nil 0),I,H,Lib.hid rfl⟩
 case round=>
  clear I H;obtain ⟨k,f,S,q,rfl,hk,hS,HF,HT,HO,HS,HB,V⟩:=hrel;obtain ⟨f,rfl⟩:∃g,f=g+1:=⟨f - 1,by have:=HF.out;omega⟩
  obtain ⟨R,M⟩:∃R,l.drop k=R:=⟨_,rfl⟩;have b0:R.length=l.length - k:=by rw [←M,List.length_drop]
  rw [M] at V;have a0:=Lib.hid M;have a1:Hid ((bs l).extract k l.length=bs R):=Lib.hid (by rw [fW,List.take_length,M]);clear M;go_wp2_with fail
  rw [a1.out];refine (Dy R wr (by unfold maxLen;omega)).mono ?_;rintro e Q ⟨rfl,P⟩;have A:Below wr.heap.size wr Q:=P.toBelow (Nat.le_refl _);have T:=Lib.hid (HS.out.keep A);have U:=Lib.hid (HB.out.trans (A.mono HS.out.le));clear P A
  have d:Hid (∀(W:World) (Z:Nat→Nat),bh w.heap.size W (w.heap.size+1) w.heap.size Z (.slice none 0 0) S→∀x:ByteArray,(bytesWorld W 5 x).cell? ⟨w.heap.size+1,0,none⟩=some (.slice none 0 0)∧(bytesWorld W 5 x).frozen? ⟨w.heap.size+1,0,none⟩=false):=Lib.hid (fun W Z i x=>by
   have:=(i.keep (mO (e:=5) (x:=x))).bag
   exact ⟨by rw [Lib.cell_of_heap this];rfl,Lib.frozen_of_heap this 0⟩)
  have J:Hid ((bs l).extract 0 k=bs (l.take k)):=Lib.hid (by rw [fW,List.drop_zero]);have sk:(bs (l.take k)).size=k:=by rw [aG,List.length_take];omega
  cases B:ji R with
  | none=>
   have a:=Lib.hid (V.out.trans (gP B));have g0:=fun x=>(d.out Q q T.out x).1;have g1:=fun x=>(d.out Q q T.out x).2;clear B;simp only [mI];go_wp2_with fail
   rw [J.out];obtain ⟨t,u,y⟩:=Bx (l:=l) (k:=k) T.out U.out (by rw [List.length_take];unfold maxLen;omega);have p:=U.out;rw [sk] at t u y;refine (np _ _ _ _ _ _ _ t).mono ?_;rintro e w9 ⟨rfl,F,L,G⟩;have o:=Lib.hid F;have r:=Lib.hid (u.moves fun g a7 z e=>L.cells e (by decide));have s:=Lib.hid (y.trans G);clear F L G t u y;go_wp2_with fail
   go_ret;exact ⟨w.heap.size+1,w.heap.size,q,_,rfl,by rw [a.out];exact o.out,by rw [a.out];exact HO.out,by rw [a.out];exact r.out,fun g e=>(by injection e with e;simp only at e;rw [←e];exact p.size),s.out⟩
  | some c=>
   have a8:=ku B;obtain ⟨b,c2⟩:=c;simp only at a8;have O:Q.cell? ⟨0,0,none⟩=some (.int .i64 n):=(U.out.cell (by exact aC HM.out)).trans HM.out;have a5:=Lib.hid (Ac w.heap.size (w.heap.size+1) w.heap.size q (.slice none 0 0) S b n Q T.out HO.out (by omega) O (by omega));have a2:Hid (S.takes b=none→bw l=(S,k)):=Lib.hid (fun Y=>V.out.trans (jf B Y))
   have K:Hid (∀h,S.takes b=some h→bw l=dz f h (k+8+b.length) (l.drop (k+8+b.length))∧8 * h.items.length≤k+8+b.length∧h.time≤1000000000):=Lib.hid (fun h Y=>by
    have hz:=rY Y HT.out;refine ⟨?_,by omega,hz.2⟩
    rw [V.out,fP B Y]
    rw [show l.drop (k+8+b.length)=c2 by
     have e9:=xA B;simp only at e9;rw [e9,←a0.out,List.drop_drop]
     congr 1;omega])
   have s1:=aG b;have s2:=aG c2;clear B O;simp only [mI];go_wp2_with fail
   refine a5.out.mono ?_;intro e w2 C;obtain ⟨hT,m⟩:=C;unfold mL at hT;obtain ⟨a9,N⟩:=hT;have B2:=Lib.hid (U.out.trans N);have a4:=Lib.hid m;clear N m
   rcases a9 with ⟨D,rfl,i⟩ | ⟨h,Z,D,rfl,i⟩
   ·have a:=Lib.hid (a2.out D);have g0:=fun x=>(d.out w2 q i x).1;have g1:=fun x=>(d.out w2 q i x).2;have A2:=Lib.hid i;clear D i;go_wp2_with fail
    rw [J.out];obtain ⟨t,u,y⟩:=Bx (l:=l) (k:=k) A2.out B2.out (by rw [List.length_take];unfold maxLen;omega);have p:=B2.out;rw [sk] at t u y;refine (np _ _ _ _ _ _ _ t).mono ?_;rintro e w9 ⟨rfl,F,L,G⟩;have o:=Lib.hid F;have r:=Lib.hid (u.moves fun g a7 z e=>L.cells e (by decide));have s:=Lib.hid (y.trans G);clear F L G t u y;go_wp2_with fail
    go_ret;exact ⟨w.heap.size+1,w.heap.size,q,_,rfl,by rw [a.out];exact o.out,by rw [a.out];exact HO.out,by rw [a.out];exact r.out,fun g e=>(by injection e with e;simp only at e;rw [←e];exact p.size),s.out⟩
   ·have a:=Lib.hid (K.out h D);have a3:=Lib.hid (a4.out h D);have A2:=Lib.hid i;have b3:IntKind.i64.wrap ((l.length:Int) - (c2.length:Int))=((k+8+b.length:Nat):Int):=by rw [IntKind.wrap_i64];omega
    clear D i;go_wp2_with fail
    exact ⟨⟨k+8+b.length,f,h,Z,rfl,by omega,a.out.2.1,Lib.hid (by have:=HF.out;omega),Lib.hid a.out.2.2,a3,A2,B2,Lib.hid a.out.1⟩,by simp only [intOf];omega⟩
def Ce (base:Nat) (w:World) (pp:Nat) (l:List UInt8):Prop:=
 ∃pb mb q vr,(∃C:Array Value,w.heap[pp]? =some (.cells C 88 (0,0))∧C[9]? =some (.pointer (some ⟨pb,0,none⟩)))∧bh base w pb mb q vr (bw l).1∧(bw l).1.Ok∧kl w vr (l.take (bw l).2)∧base≤pp∧∀g,vr.ownBlock=some g→base≤g
theorem Ce.keep {a c:Nat} {w d:World} {l:List UInt8} (h:Ce a w c l) (b:Below w.heap.size w d):Ce a d c l:=by
 obtain ⟨n,m,q,o,⟨C,e,k⟩,f,g,i,j⟩:=h;exact ⟨n,m,q,o,⟨C,ae b e,k⟩,f.keep b,g,i.keep b,j⟩
def df (x:Nat×Bool):Value:= .agg #[.int .i64 x.1,.bool x.2]
def fo (pp pb ch:Nat) (va vu vl:Value) (frm body:List UInt8) (over:Bool) (t:aQ):Array Value:=
 #[.pointer (some ⟨pp,0,none⟩),.pointer (some ⟨pb,0,none⟩),.int .i64 ((t.i:Int)+1),.string (bs frm),va,.string (bs body),.int .i64 t.said,vu,vl,.chan (some ch),.bool over]
structure bR (w:World) (tb ch pp pb:Nat) (va vu vl:Value) (frm body:List UInt8) (cap:Nat) (over:Bool) (t:aQ):Prop where
 blk:w.heap[tb]? =some (.cells (fo pp pb ch va vu vl frm body over t) 153 (0,0))
 chan:∃s r,w.heap[ch]? =some (.chan cap (t.came.map df).toArray false s r false)
 una:bg w vu t.una.length 2 (aR t.una)
 wil:w.ownsRow 0 162 2 vl t.wil.length (aR t.wil)
 ua:∀k,vu.ownBlock=some k→va.ownBlock=some k
 al:∀k,vl.ownBlock=some k→va.ownBlock≠some k
 at_:∀k,va.ownBlock=some k→k≠tb∧k≠ch∧k < w.heap.size
def lA (tb ch:Nat) (va vl:Value) (k:Nat):Prop:=k=tb∨k=ch∨va.ownBlock=some k∨vl.ownBlock=some k
section
variable {w w':World} {tb ch pp pb:Nat} {va vu vl:Value} {frm body:List UInt8} {cap:Nat} {over:Bool} {t:aQ} {B:Nat→Prop}
theorem bR.cell (h:bR w tb ch pp pb va vu vl frm body cap over t) (j:Nat):w.cell? ⟨tb,j,none⟩=(fo pp pb ch va vu vl frm body over t)[j]? :=by rw [Lib.cell_of_heap h.blk]
theorem bR.frozen (h:bR w tb ch pp pb va vu vl frm body cap over t) (j:Nat):w.frozen? ⟨tb,j,none⟩=false:=Lib.frozen_of_heap h.blk j
theorem bR.tc (h:bR w tb ch pp pb va vu vl frm body cap over t):tb≠ch:=fun e=>by
 obtain ⟨s,r,a⟩:=h.chan;have:=h.blk;rw [e,a] at this;simp at this
theorem bR.lb (h:bR w tb ch pp pb va vu vl frm body cap over t) {k:Nat} (a:vl.ownBlock=some k):k≠tb∧k≠ch∧k < w.heap.size:=by
 have i:=(kD h.wil a).2
 rcases h.wil.2 with ⟨e,_⟩ | ⟨g,l,d,e,_,b,_⟩
 ·rw [e] at a;cases a
 ·rw [e] at a;have f:g=k:=by simpa [Value.ownBlock] using a
  subst f;refine ⟨fun c=>?_,fun c=>?_,i⟩
  ·rw [c,h.blk] at b;simp at b
  ·obtain ⟨s,r,j⟩:=h.chan;rw [c,j] at b;simp at b
theorem bR.lt (h:bR w tb ch pp pb va vu vl frm body cap over t) {k:Nat} (b:lA tb ch va vl k):k < w.heap.size:=by
 rcases b with e | e | e | e
 ·rw [e];exact ah h.blk
 ·obtain ⟨s,r,a⟩:=h.chan;rw [e];exact ah a
 ·exact (h.at_ k e).2.2
 ·exact (h.lb e).2.2
theorem bR.chg (h:bR w tb ch pp pb va vu vl frm body cap over t) (a:aH B w w') (b:∀k,lA tb ch va vl k→¬B k):bR w' tb ch pp pb va vu vl frm body cap over t:=by
 obtain ⟨s,r,c⟩:=h.chan;exact ⟨a.some_ h.blk (b _ (.inl rfl)),⟨s,r,a.some_ c (b _ (.inr (.inl rfl)))⟩,h.una.chg a (fun g e=>b g (.inr (.inr (.inl (h.ua g e))))),bC h.wil a (fun g e=>b g (.inr (.inr (.inr e)))),h.ua,h.al,fun k e=>⟨(h.at_ k e).1,(h.at_ k e).2.1,Nat.lt_of_lt_of_le (h.at_ k e).2.2 a.size⟩⟩
theorem bR.below (h:bR w tb ch pp pb va vu vl frm body cap over t) (a:Below w.heap.size w w'):bR w' tb ch pp pb va vu vl frm body cap over t:=h.chg (aH.below a:aH (fun _=>False) w w') (fun _ _ e=>e)
theorem bR.put (h:bR w tb ch pp pb va vu vl frm body cap over t) {c b:Value} {a:Bool} {t':aQ} (d:aL tb w w') (l:w'.heap[tb]? =some (.cells (fo pp pb ch va c b frm body a t') 153 (0,0))) (m:t'.came=t.came) (o:bg w c t'.una.length 2 (aR t'.una)) (n:w.ownsRow 0 162 2 b t'.wil.length (aR t'.wil)) (ua:∀k,c.ownBlock=some k→va.ownBlock=some k) (i:∀k,b.ownBlock=some k→va.ownBlock≠some k∧k≠tb):bR w' tb ch pp pb va c b frm body cap a t':=by
 obtain ⟨s,r,j⟩:=h.chan;exact ⟨l,⟨s,r,by rw [m];exact aP d j (Ne.symm h.tc)⟩,o.chg (aH.same d) (fun g e f=>(h.at_ g (ua g e)).1 f),bC n (aH.same d) (fun g e f=>(i g e).2 f),ua,fun k e=>(i k e).1,fun k e=>⟨(h.at_ k e).1,(h.at_ k e).2.1,Nat.lt_of_lt_of_le (h.at_ k e).2.2 (aH.same d).size⟩⟩
end
def fQ (tb ch pp pb:Nat) (va vl:Value) (frm body:List UInt8) (cap:Nat) (w:World) (x:aQ×List UInt8) (e:Ending) (w':World):Prop:=
 e= .returned (.string (bs x.2))∧∃vu' vl',bR w' tb ch pp pb va vu' vl' frm body cap false x.1∧aH (lA tb ch va vl) w w'∧∀k,vl'.ownBlock=some k→vl.ownBlock=some k∨w.heap.size≤k
section
variable {w w':World} {tb ch pp pb:Nat} {va vu vl:Value} {frm body:List UInt8} {cap:Nat} {t:aQ}
theorem nZ (h:bR w tb ch pp pb va vu vl frm body cap false t) (s:Nat) (l:List UInt8) (j:l.length≤100000000000000):
  Calls Tryz.prog 126 #[.pointer (some ⟨tb,0,none⟩),.int .i64 (s:Int),.string (bs l)] w (fQ tb ch pp pb va vl frm body cap w (t.say s l)):=by
 have g:w.cell? ⟨tb,6,none⟩=some (.int .i64 t.said):=h.cell 6;have i:=h.frozen 6;have f:=aG l;have a:(bs l++(⟨#[13,10]⟩:ByteArray))=bs (l++[13,10]):=(cE l [13,10]).symm;have d:=Lib.hid a;have b:=Lib.hid h;clear h a;go_enter Tryz.func126,Tryz.ntmps126;go_wp2_with fail
 go_ret;have c:aL tb w (w.setCell ⟨tb,6,none⟩ (.int .i64 (s:Int))):=(aL.refl _ _).setCell _;refine ⟨by rw [d.out];rfl,vu,vl,b.out.put (t':=(t.say s l).1) c (heap_setCell_same w tb 6 _ _ (.int .i64 (s:Int)) b.out.blk) rfl b.out.una b.out.wil b.out.ua (fun k e=>⟨b.out.al k e,(b.out.lb e).1⟩),(aH.same c).mono (fun k _ e=> .inl e),fun k e=> .inl e⟩
theorem fD (h:bR w tb ch pp pb va vu vl frm body cap false t):
  Calls Tryz.prog 127 #[.pointer (some ⟨tb,0,none⟩)] w (fQ tb ch pp pb va vl frm body cap w t.quit):=by
 have c:=Lib.hid (nZ h 6 [81,85,73,84] (by decide));clear h;go_enter Tryz.func127,Tryz.ntmps127;go_wp2_with fail
 refine c.out.mono ?_;rintro e d ⟨rfl,a⟩;have b:=Lib.hid a;clear a;go_wp2_with fail
 go_ret;exact ⟨rfl,b.out⟩
theorem pw (h:bR w tb ch pp pb va vu vl frm body cap false t) (hz:∀x∈t.una,x.2.length≤1000) (z:t.una.length≤1000) (v:t.wil.length≤1000):
  Calls Tryz.prog 128 #[.pointer (some ⟨tb,0,none⟩)] w (fQ tb ch pp pb va vl frm body cap w t.ask):=by
 obtain ⟨A,Q,o⟩:=aE h.una;obtain ⟨O,P,p⟩:=aE (aF h.wil);have C:w.cell? ⟨tb,7,none⟩=some (.slice A t.una.length Q):=by rw [←o];exact h.cell 7
 have D:w.cell? ⟨tb,8,none⟩=some (.slice O t.wil.length P):=by rw [←p];exact h.cell 8
 by_cases c:t.una=[]
 ·have R:t.una.length=0:=by rw [c];rfl
  rw [R] at C
  by_cases i:t.wil=[]
  ·have S:t.wil.length=0:=by rw [i];rfl
   rw [S] at D;have l:t.ask=t.quit:=by unfold aQ.ask;rw [c];simp [i]
   rw [l];have k:=Lib.hid (fD h);clear h o p c i;go_enter Tryz.func128,Tryz.ntmps128;go_wp2_with fail
   refine k.out.mono ?_;rintro e M ⟨rfl,f⟩;have j:=Lib.hid f;clear f;go_wp2_with fail
   go_ret;exact ⟨rfl,j.out⟩
  ·have V:(0:Int) < (t.wil.length:Int):=by have:=List.length_pos_iff.2 i;omega
   have l:t.ask=t.say 4 [68,65,84,65]:=by unfold aQ.ask;rw [c];simp [i]
   rw [l];have k:=Lib.hid (nZ h 4 [68,65,84,65] (by decide));obtain ⟨K,n⟩:∃K,t.wil.length=K:=⟨_,rfl⟩;rw [n] at D V v;clear h o p c i n;go_enter Tryz.func128,Tryz.ntmps128;go_wp2_with fail
   refine k.out.mono ?_;rintro e M ⟨rfl,f⟩;have j:=Lib.hid f;clear f;go_wp2_with fail
   go_ret;exact ⟨rfl,j.out⟩
 ·obtain ⟨r,u,s⟩:∃r u,t.una=r::u:=by
   cases e:t.una with
   | nil=>exact absurd e c
   | cons r u=>exact ⟨r,u,rfl⟩
  have U:(0:Int) < (t.una.length:Int):=by have:=List.length_pos_iff.2 c;omega
  have y:=h.una;rw [o] at y
  obtain ⟨b,a,l,W,X⟩:∃b a,A=some ⟨b,a,none⟩∧w.cell? ⟨b,a,none⟩=some (.int .i64 (r.1:Int))∧w.cell? ⟨b,a+1,none⟩=some (.string (bs r.2)):=by
   obtain ⟨a2,c2,q,F⟩:=y.shape;injection q with q _ _;have G:0 < t.una.length:=List.length_pos_iff.2 c;obtain ⟨b,a,E,_,H⟩:=F 0 0 G (by decide);obtain ⟨b',L,g,_,I⟩:=F 0 1 G (by decide);rw [E] at g;injection g with g;injection g with g e5;subst g e5;rw [s] at H I;exact ⟨b,a,q.trans E,by simpa [aR] using H,by simpa [aR] using I⟩
  subst l;have Y:=hz r (by rw [s];simp);have T:t.ask=t.say 3 ([82,67,80,84,32,84,79,58,60]++r.2++[62]):=by unfold aQ.ask;rw [s]
  rw [T];have k:=Lib.hid (nZ h 3 ([82,67,80,84,32,84,79,58,60]++r.2++[62]) (by simp only [List.length_append,List.length_cons,List.length_nil];omega));have Z:=aG r.2
  have d:((⟨#[82,67,80,84,32,84,79,58,60]⟩:ByteArray)++bs r.2)++(⟨#[62]⟩:ByteArray)=bs ([82,67,80,84,32,84,79,58,60]++r.2++[62]):=by
   rw [←cE ([82,67,80,84,32,84,79,58,60]++r.2) [62],←cE [82,67,80,84,32,84,79,58,60] r.2];rfl
  have N:=Lib.hid d;obtain ⟨J,m⟩:∃J,t.una.length=J:=⟨_,rfl⟩;rw [m] at C U z;clear h o p c d m y;go_enter Tryz.func128,Tryz.ntmps128;go_wp2_with fail
  rw [N.out];refine k.out.mono ?_;rintro e M ⟨rfl,f⟩;have j:=Lib.hid f;clear f;go_wp2_with fail
  go_ret;exact ⟨rfl,j.out⟩
end
open Go.Conc Go.RowKit
theorem DM {P:Program} {d:Bool} {c:Array Oper} {b:Frame} {a:Act} {k:List Item} {e:List Frame} {w:World} {f:Nat}:
  stepG P d (G (b.at a (.code (.region f c true)::k)) e) w= .go (G (b.at a (.inRegion c (Region.schedule (P.follows .mixedOrders) c (w.tape w.drawn (.order b.fn f)))::k)) e) w.drew:=by
 simp [G,stepG,stepG.exec,Frame.at,choose,Sem.run,Question.forced,Question.cut]
def cZ (P:Program) (Q:Goroutine→World→Prop) (b:Frame) (k:List Item) (cs:List Frame) (ops:Array Oper):Nat→Array Bool→Act→World→Prop
 | 0,listed,a,w=>Region.ready .any ops listed=[]∧LoneTo P Q (G (b.at a (.inRegion ops []::k)) cs) w
 | fuel+1,listed,a,w=>
  (Region.ready .any ops listed=[]→LoneTo P Q (G (b.at a (.inRegion ops []::k)) cs) w)∧
  ∀i∈Region.ready .any ops listed,∀rest,(∀a' w',cZ P Q b k cs ops fuel (listed.setIfInBounds i true) a' w'→LoneTo P Q (G (b.at a' (.inRegion ops rest::k)) cs) w')→LoneTo P Q (G (b.at a (.inRegion ops (i::rest)::k)) cs) w
theorem A8 {P:Program} {Q:Goroutine→World→Prop} {b:Frame} {k:List Item} {g:List Frame} {d:Array Oper}:∀(e t:Nat) (c:Array Bool) (a:Act) (w:World),cZ P Q b k g d e c a w→
  LoneTo P Q (G (b.at a (.inRegion d (Region.linearise.go .any d e t c [])::k)) g) w:=by
 intro e
 induction e with
 | zero=>intro t c a w h;simpa [Region.linearise.go] using h.2
 | succ e ih=>
  intro t c a w h;obtain ⟨p,q⟩:=h;simp only [Region.linearise.go]
  change LoneTo P Q (G (b.at a (.inRegion d (match (Region.ready .any d c)[t % (Region.ready .any d c).length]? with
   | some i=>Region.linearise.go .any d e (t / (Region.ready .any d c).length) (c.setIfInBounds i true) [i]
   | none=>[].reverse)::k)) g) w
  cases j:(Region.ready .any d c)[t % (Region.ready .any d c).length]? with
  | none=>
   have f:Region.ready .any d c=[]:=by
    cases o:Region.ready .any d c with
    | nil=>rfl
    | cons x xs=>
     rw [o] at j;have l:t % (x::xs).length < (x::xs).length:=Nat.mod_lt _ (by simp);simp at j;simp at l;omega
   simpa using p f
  | some i=>
   simp only [];rw [linearise_go_acc,List.reverse_singleton,List.singleton_append];exact q i (List.mem_of_getElem? j) _ (fun m r n=>ih _ _ m r n)
theorem mA {P:Program} {Q:Goroutine→World→Prop} {b:Frame} {k:List Item} {d:List Frame} {c:Array Oper} {f:Nat} {a:Act} {w:World} (e:P.follows .mixedOrders=true)
  (h:cZ P Q b k d c c.size (Array.replicate c.size false) a w.drew):LoneTo P Q (G (b.at a (.code (.region f c true)::k)) d) w:=by
 refine LoneTo.step (step_solo_go rfl DM) ?_;simp only [Region.schedule,e,Bool.true_or,if_true];exact A8 c.size _ _ a _ h
def aV:Option Code→Code
 | some (.seq _ (.block _ (.loop c)))=>c
 | _=> .skip
def bH:Code→Array Oper
 | .seq _ (.seq _ (.seq (.block _ (.seq _ (.region _ ops _))) _))=>ops
 | _=>#[]
theorem AD (Q:Goroutine→World→Prop) (k:List Item) (p:List Frame) (d H o F s r id:Nat) (E:Array Value) (P:Int) (w:World) (hc:w.cell? ⟨d,9,none⟩=some (.chan (some H))) (hP:w.cell? ⟨o,0,none⟩=some (.int .i64 P)) (a0:w.heap[H]? =some (.chan F E false s r false)) (J:E.size < F) (q t u y z A B C g j u12 u13 u14 u15 u16 u17 u18 m:Value)
  (hk:LoneTo Tryz.prog Q (G ((base 129).at ⟨#[(.pointer (some ⟨d,0,none⟩)),q,t,u,y,(.pointer (some ⟨o,0,none⟩)),z,A,B,C,g,j,(.pointer (some ⟨d,0,none⟩)),(.pointer (some ⟨d,0,none⟩)),(.pointer (some ⟨d,9,none⟩)),(.chan (some H)),(.pointer (some ⟨o,0,none⟩)),(.int .i64 P),(.agg #[.int .i64 P,.bool false]),m],[]⟩ k) p) (w.drew.setChan H F (E.push (.agg #[.int .i64 P,.bool false])) false (s+1) r false)):
  LoneTo Tryz.prog Q (G ((base 129).at ⟨#[(.pointer (some ⟨d,0,none⟩)),q,t,u,y,(.pointer (some ⟨o,0,none⟩)),z,A,B,C,g,j,u12,u13,u14,u15,u16,u17,u18,m],[]⟩ (.code (.region id (bH (aV Tryz.f129.body)) true)::k)) p) w:=by
 refine mA (by kernel_rfl) ?_;have b1:w.drew.cell? ⟨d,9,none⟩=some (.chan (some H)):=hc;have b0:w.drew.cell? ⟨o,0,none⟩=some (.int .i64 P):=hP;have I:w.drew.heap[H]? =some (.chan F E false s r false):=a0;obtain ⟨W,hW⟩:∃W,w.drew=W:=⟨_,rfl⟩;rw [hW] at b1 b0 I hk;show cZ _ _ _ _ _ _ 8 #[false,false,false,false,false,false,false,false] _ w.drew;rw [hW];clear hc hP a0 hW;obtain ⟨f,D⟩:∃f,bH (aV Tryz.f129.body)=f:=⟨_,rfl⟩;have R:∀l x,Region.ready .any (bH (aV Tryz.f129.body)) l=x→Region.ready .any f l=x:=fun l x h=>by rw [←D];exact h
 have a9:cZ Tryz.prog Q (base 129) k p f 0 #[true,true,true,true,true,true,true,true] ⟨#[(.pointer (some ⟨d,0,none⟩)),q,t,u,y,(.pointer (some ⟨o,0,none⟩)),z,A,B,C,g,j,(.pointer (some ⟨d,0,none⟩)),(.pointer (some ⟨d,0,none⟩)),(.pointer (some ⟨d,9,none⟩)),(.chan (some H)),(.pointer (some ⟨o,0,none⟩)),(.int .i64 P),(.agg #[.int .i64 P,.bool false]),m],[]⟩ (W.setChan H F (E.push (.agg #[.int .i64 P,.bool false])) false (s+1) r false):=
  ⟨R _ _ (by kernel_rfl),LoneTo.goes (n:=1) (by s_c stepG_region_end;s_stop;exact hk)⟩
 have Z:cZ Tryz.prog Q (base 129) k p f 1 #[true,true,true,true,true,true,true,false] ⟨#[(.pointer (some ⟨d,0,none⟩)),q,t,u,y,(.pointer (some ⟨o,0,none⟩)),z,A,B,C,g,j,(.pointer (some ⟨d,0,none⟩)),(.pointer (some ⟨d,0,none⟩)),(.pointer (some ⟨d,9,none⟩)),(.chan (some H)),(.pointer (some ⟨o,0,none⟩)),(.int .i64 P),(.agg #[.int .i64 P,.bool false]),m],[]⟩ W:=by
  refine ⟨fun h=>(by rw [R _ [7] (by kernel_rfl)] at h;cases h),fun i b e a=>?_⟩;rw [R _ [7] (by kernel_rfl),List.mem_singleton] at b;subst b;subst D;simp only [bH,aV,Tryz.f129] at a ⊢;refine LoneTo.step (step_lone_send_room (c:=H) (cap:=F) (buf:=E) (s:=s) (r:=r) (tm:=false) (v:= .agg #[.int .i64 P,.bool false]) (stepG_comm (cases:=#[scase H (.agg #[.int .i64 P,.bool false]) (.tuple #[])]) (blocking:=true) (shape:= .send) (w':=W) rfl rfl (by decide) (by simp [execOp,scase,Act.eval])) I J) ?_;rw [Frame.finish_at];exact a _ _ a9
 have V:cZ Tryz.prog Q (base 129) k p f 2 #[true,true,true,false,true,true,true,false] ⟨#[(.pointer (some ⟨d,0,none⟩)),q,t,u,y,(.pointer (some ⟨o,0,none⟩)),z,A,B,C,g,j,(.pointer (some ⟨d,0,none⟩)),(.pointer (some ⟨d,0,none⟩)),(.pointer (some ⟨d,9,none⟩)),u15,(.pointer (some ⟨o,0,none⟩)),(.int .i64 P),(.agg #[.int .i64 P,.bool false]),m],[]⟩ W:=by
  refine ⟨fun h=>(by rw [R _ [3] (by kernel_rfl)] at h;cases h),fun i b e a=>?_⟩;rw [R _ [3] (by kernel_rfl)] at b;subst D;simp only [bH,aV,Tryz.f129] at a ⊢;rw [List.mem_singleton] at b;subst b;exact LoneTo.goes (n:=1) (by s_op;s_stop;exact a _ _ Z)
 have Y:cZ Tryz.prog Q (base 129) k p f 2 #[true,true,true,true,true,true,false,false] ⟨#[(.pointer (some ⟨d,0,none⟩)),q,t,u,y,(.pointer (some ⟨o,0,none⟩)),z,A,B,C,g,j,(.pointer (some ⟨d,0,none⟩)),(.pointer (some ⟨d,0,none⟩)),(.pointer (some ⟨d,9,none⟩)),(.chan (some H)),(.pointer (some ⟨o,0,none⟩)),(.int .i64 P),u18,m],[]⟩ W:=by
  refine ⟨fun h=>(by rw [R _ [6] (by kernel_rfl)] at h;cases h),fun i b e a=>?_⟩;rw [R _ [6] (by kernel_rfl)] at b;subst D;simp only [bH,aV,Tryz.f129] at a ⊢;rw [List.mem_singleton] at b;subst b;exact LoneTo.goes (n:=1) (by s_op;s_stop;exact a _ _ Z)
 have S:cZ Tryz.prog Q (base 129) k p f 3 #[true,true,false,false,true,true,true,false] ⟨#[(.pointer (some ⟨d,0,none⟩)),q,t,u,y,(.pointer (some ⟨o,0,none⟩)),z,A,B,C,g,j,(.pointer (some ⟨d,0,none⟩)),(.pointer (some ⟨d,0,none⟩)),u14,u15,(.pointer (some ⟨o,0,none⟩)),(.int .i64 P),(.agg #[.int .i64 P,.bool false]),m],[]⟩ W:=by
  refine ⟨fun h=>(by rw [R _ [2] (by kernel_rfl)] at h;cases h),fun i b e a=>?_⟩;rw [R _ [2] (by kernel_rfl)] at b;subst D;simp only [bH,aV,Tryz.f129] at a ⊢;rw [List.mem_singleton] at b;subst b;exact LoneTo.goes (n:=1) (by s_op;s_stop;exact a _ _ V)
 have U:cZ Tryz.prog Q (base 129) k p f 3 #[true,true,true,false,true,true,false,false] ⟨#[(.pointer (some ⟨d,0,none⟩)),q,t,u,y,(.pointer (some ⟨o,0,none⟩)),z,A,B,C,g,j,(.pointer (some ⟨d,0,none⟩)),(.pointer (some ⟨d,0,none⟩)),(.pointer (some ⟨d,9,none⟩)),u15,(.pointer (some ⟨o,0,none⟩)),(.int .i64 P),u18,m],[]⟩ W:=by
  refine ⟨fun h=>(by rw [R _ [3,6] (by kernel_rfl)] at h;cases h),fun i b e a=>?_⟩;rw [R _ [3,6] (by kernel_rfl)] at b;subst D;simp only [bH,aV,Tryz.f129] at a ⊢;simp only [List.mem_cons,List.not_mem_nil,or_false] at b
  rcases b with rfl | rfl
  ·exact LoneTo.goes (n:=1) (by s_op;s_stop;exact a _ _ Y)
  ·exact LoneTo.goes (n:=1) (by s_op;s_stop;exact a _ _ V)
 have X:cZ Tryz.prog Q (base 129) k p f 3 #[true,true,true,true,true,false,false,false] ⟨#[(.pointer (some ⟨d,0,none⟩)),q,t,u,y,(.pointer (some ⟨o,0,none⟩)),z,A,B,C,g,j,(.pointer (some ⟨d,0,none⟩)),(.pointer (some ⟨d,0,none⟩)),(.pointer (some ⟨d,9,none⟩)),(.chan (some H)),(.pointer (some ⟨o,0,none⟩)),u17,u18,m],[]⟩ W:=by
  refine ⟨fun h=>(by rw [R _ [5] (by kernel_rfl)] at h;cases h),fun i b e a=>?_⟩;rw [R _ [5] (by kernel_rfl)] at b;subst D;simp only [bH,aV,Tryz.f129] at a ⊢;rw [List.mem_singleton] at b;subst b;exact LoneTo.goes (n:=1) (by s_op;s_stop;exact a _ _ Y)
 have M:cZ Tryz.prog Q (base 129) k p f 4 #[true,false,false,false,true,true,true,false] ⟨#[(.pointer (some ⟨d,0,none⟩)),q,t,u,y,(.pointer (some ⟨o,0,none⟩)),z,A,B,C,g,j,(.pointer (some ⟨d,0,none⟩)),u13,u14,u15,(.pointer (some ⟨o,0,none⟩)),(.int .i64 P),(.agg #[.int .i64 P,.bool false]),m],[]⟩ W:=by
  refine ⟨fun h=>(by rw [R _ [1] (by kernel_rfl)] at h;cases h),fun i b e a=>?_⟩;rw [R _ [1] (by kernel_rfl)] at b;subst D;simp only [bH,aV,Tryz.f129] at a ⊢;rw [List.mem_singleton] at b;subst b;exact LoneTo.goes (n:=1) (by s_op;s_stop;exact a _ _ S)
 have O:cZ Tryz.prog Q (base 129) k p f 4 #[true,true,false,false,true,true,false,false] ⟨#[(.pointer (some ⟨d,0,none⟩)),q,t,u,y,(.pointer (some ⟨o,0,none⟩)),z,A,B,C,g,j,(.pointer (some ⟨d,0,none⟩)),(.pointer (some ⟨d,0,none⟩)),u14,u15,(.pointer (some ⟨o,0,none⟩)),(.int .i64 P),u18,m],[]⟩ W:=by
  refine ⟨fun h=>(by rw [R _ [2,6] (by kernel_rfl)] at h;cases h),fun i b e a=>?_⟩;rw [R _ [2,6] (by kernel_rfl)] at b;subst D;simp only [bH,aV,Tryz.f129] at a ⊢;simp only [List.mem_cons,List.not_mem_nil,or_false] at b
  rcases b with rfl | rfl
  ·exact LoneTo.goes (n:=1) (by s_op;s_stop;exact a _ _ U)
  ·exact LoneTo.goes (n:=1) (by s_op;s_stop;exact a _ _ S)
 have T:cZ Tryz.prog Q (base 129) k p f 4 #[true,true,true,false,true,false,false,false] ⟨#[(.pointer (some ⟨d,0,none⟩)),q,t,u,y,(.pointer (some ⟨o,0,none⟩)),z,A,B,C,g,j,(.pointer (some ⟨d,0,none⟩)),(.pointer (some ⟨d,0,none⟩)),(.pointer (some ⟨d,9,none⟩)),u15,(.pointer (some ⟨o,0,none⟩)),u17,u18,m],[]⟩ W:=by
  refine ⟨fun h=>(by rw [R _ [3,5] (by kernel_rfl)] at h;cases h),fun i b e a=>?_⟩;rw [R _ [3,5] (by kernel_rfl)] at b;subst D;simp only [bH,aV,Tryz.f129] at a ⊢;simp only [List.mem_cons,List.not_mem_nil,or_false] at b
  rcases b with rfl | rfl
  ·exact LoneTo.goes (n:=1) (by s_op;s_stop;exact a _ _ X)
  ·exact LoneTo.goes (n:=1) (by s_op;s_stop;exact a _ _ U)
 have a8:cZ Tryz.prog Q (base 129) k p f 4 #[true,true,true,true,false,false,false,false] ⟨#[(.pointer (some ⟨d,0,none⟩)),q,t,u,y,(.pointer (some ⟨o,0,none⟩)),z,A,B,C,g,j,(.pointer (some ⟨d,0,none⟩)),(.pointer (some ⟨d,0,none⟩)),(.pointer (some ⟨d,9,none⟩)),(.chan (some H)),u16,u17,u18,m],[]⟩ W:=by
  refine ⟨fun h=>(by rw [R _ [4] (by kernel_rfl)] at h;cases h),fun i b e a=>?_⟩;rw [R _ [4] (by kernel_rfl)] at b;subst D;simp only [bH,aV,Tryz.f129] at a ⊢;rw [List.mem_singleton] at b;subst b;exact LoneTo.goes (n:=1) (by s_op;s_stop;exact a _ _ X)
 have a4:cZ Tryz.prog Q (base 129) k p f 5 #[false,false,false,false,true,true,true,false] ⟨#[(.pointer (some ⟨d,0,none⟩)),q,t,u,y,(.pointer (some ⟨o,0,none⟩)),z,A,B,C,g,j,u12,u13,u14,u15,(.pointer (some ⟨o,0,none⟩)),(.int .i64 P),(.agg #[.int .i64 P,.bool false]),m],[]⟩ W:=by
  refine ⟨fun h=>(by rw [R _ [0] (by kernel_rfl)] at h;cases h),fun i b e a=>?_⟩;rw [R _ [0] (by kernel_rfl)] at b;subst D;simp only [bH,aV,Tryz.f129] at a ⊢;rw [List.mem_singleton] at b;subst b;exact LoneTo.goes (n:=1) (by s_op;s_stop;exact a _ _ M)
 have L:cZ Tryz.prog Q (base 129) k p f 5 #[true,false,false,false,true,true,false,false] ⟨#[(.pointer (some ⟨d,0,none⟩)),q,t,u,y,(.pointer (some ⟨o,0,none⟩)),z,A,B,C,g,j,(.pointer (some ⟨d,0,none⟩)),u13,u14,u15,(.pointer (some ⟨o,0,none⟩)),(.int .i64 P),u18,m],[]⟩ W:=by
  refine ⟨fun h=>(by rw [R _ [1,6] (by kernel_rfl)] at h;cases h),fun i b e a=>?_⟩;rw [R _ [1,6] (by kernel_rfl)] at b;subst D;simp only [bH,aV,Tryz.f129] at a ⊢;simp only [List.mem_cons,List.not_mem_nil,or_false] at b
  rcases b with rfl | rfl
  ·exact LoneTo.goes (n:=1) (by s_op;s_stop;exact a _ _ O)
  ·exact LoneTo.goes (n:=1) (by s_op;s_stop;exact a _ _ M)
 have N:cZ Tryz.prog Q (base 129) k p f 5 #[true,true,false,false,true,false,false,false] ⟨#[(.pointer (some ⟨d,0,none⟩)),q,t,u,y,(.pointer (some ⟨o,0,none⟩)),z,A,B,C,g,j,(.pointer (some ⟨d,0,none⟩)),(.pointer (some ⟨d,0,none⟩)),u14,u15,(.pointer (some ⟨o,0,none⟩)),u17,u18,m],[]⟩ W:=by
  refine ⟨fun h=>(by rw [R _ [2,5] (by kernel_rfl)] at h;cases h),fun i b e a=>?_⟩;rw [R _ [2,5] (by kernel_rfl)] at b;subst D;simp only [bH,aV,Tryz.f129] at a ⊢;simp only [List.mem_cons,List.not_mem_nil,or_false] at b
  rcases b with rfl | rfl
  ·exact LoneTo.goes (n:=1) (by s_op;s_stop;exact a _ _ T)
  ·exact LoneTo.goes (n:=1) (by s_op;s_stop;exact a _ _ O)
 have a7:cZ Tryz.prog Q (base 129) k p f 5 #[true,true,true,false,false,false,false,false] ⟨#[(.pointer (some ⟨d,0,none⟩)),q,t,u,y,(.pointer (some ⟨o,0,none⟩)),z,A,B,C,g,j,(.pointer (some ⟨d,0,none⟩)),(.pointer (some ⟨d,0,none⟩)),(.pointer (some ⟨d,9,none⟩)),u15,u16,u17,u18,m],[]⟩ W:=by
  refine ⟨fun h=>(by rw [R _ [3,4] (by kernel_rfl)] at h;cases h),fun i b e a=>?_⟩;rw [R _ [3,4] (by kernel_rfl)] at b;subst D;simp only [bH,aV,Tryz.f129] at a ⊢;simp only [List.mem_cons,List.not_mem_nil,or_false] at b
  rcases b with rfl | rfl
  ·exact LoneTo.goes (n:=1) (by s_op;s_stop;exact a _ _ a8)
  ·exact LoneTo.goes (n:=1) (by s_op;s_stop;exact a _ _ T)
 have a3:cZ Tryz.prog Q (base 129) k p f 6 #[false,false,false,false,true,true,false,false] ⟨#[(.pointer (some ⟨d,0,none⟩)),q,t,u,y,(.pointer (some ⟨o,0,none⟩)),z,A,B,C,g,j,u12,u13,u14,u15,(.pointer (some ⟨o,0,none⟩)),(.int .i64 P),u18,m],[]⟩ W:=by
  refine ⟨fun h=>(by rw [R _ [0,6] (by kernel_rfl)] at h;cases h),fun i b e a=>?_⟩;rw [R _ [0,6] (by kernel_rfl)] at b;subst D;simp only [bH,aV,Tryz.f129] at a ⊢;simp only [List.mem_cons,List.not_mem_nil,or_false] at b
  rcases b with rfl | rfl
  ·exact LoneTo.goes (n:=1) (by s_op;s_stop;exact a _ _ L)
  ·exact LoneTo.goes (n:=1) (by s_op;s_stop;exact a _ _ a4)
 have K:cZ Tryz.prog Q (base 129) k p f 6 #[true,false,false,false,true,false,false,false] ⟨#[(.pointer (some ⟨d,0,none⟩)),q,t,u,y,(.pointer (some ⟨o,0,none⟩)),z,A,B,C,g,j,(.pointer (some ⟨d,0,none⟩)),u13,u14,u15,(.pointer (some ⟨o,0,none⟩)),u17,u18,m],[]⟩ W:=by
  refine ⟨fun h=>(by rw [R _ [1,5] (by kernel_rfl)] at h;cases h),fun i b e a=>?_⟩;rw [R _ [1,5] (by kernel_rfl)] at b;subst D;simp only [bH,aV,Tryz.f129] at a ⊢;simp only [List.mem_cons,List.not_mem_nil,or_false] at b
  rcases b with rfl | rfl
  ·exact LoneTo.goes (n:=1) (by s_op;s_stop;exact a _ _ N)
  ·exact LoneTo.goes (n:=1) (by s_op;s_stop;exact a _ _ L)
 have a6:cZ Tryz.prog Q (base 129) k p f 6 #[true,true,false,false,false,false,false,false] ⟨#[(.pointer (some ⟨d,0,none⟩)),q,t,u,y,(.pointer (some ⟨o,0,none⟩)),z,A,B,C,g,j,(.pointer (some ⟨d,0,none⟩)),(.pointer (some ⟨d,0,none⟩)),u14,u15,u16,u17,u18,m],[]⟩ W:=by
  refine ⟨fun h=>(by rw [R _ [2,4] (by kernel_rfl)] at h;cases h),fun i b e a=>?_⟩;rw [R _ [2,4] (by kernel_rfl)] at b;subst D;simp only [bH,aV,Tryz.f129] at a ⊢;simp only [List.mem_cons,List.not_mem_nil,or_false] at b
  rcases b with rfl | rfl
  ·exact LoneTo.goes (n:=1) (by s_op;s_stop;exact a _ _ a7)
  ·exact LoneTo.goes (n:=1) (by s_op;s_stop;exact a _ _ N)
 have a2:cZ Tryz.prog Q (base 129) k p f 7 #[false,false,false,false,true,false,false,false] ⟨#[(.pointer (some ⟨d,0,none⟩)),q,t,u,y,(.pointer (some ⟨o,0,none⟩)),z,A,B,C,g,j,u12,u13,u14,u15,(.pointer (some ⟨o,0,none⟩)),u17,u18,m],[]⟩ W:=by
  refine ⟨fun h=>(by rw [R _ [0,5] (by kernel_rfl)] at h;cases h),fun i b e a=>?_⟩;rw [R _ [0,5] (by kernel_rfl)] at b;subst D;simp only [bH,aV,Tryz.f129] at a ⊢;simp only [List.mem_cons,List.not_mem_nil,or_false] at b
  rcases b with rfl | rfl
  ·exact LoneTo.goes (n:=1) (by s_op;s_stop;exact a _ _ K)
  ·exact LoneTo.goes (n:=1) (by s_op;s_stop;exact a _ _ a3)
 have a5:cZ Tryz.prog Q (base 129) k p f 7 #[true,false,false,false,false,false,false,false] ⟨#[(.pointer (some ⟨d,0,none⟩)),q,t,u,y,(.pointer (some ⟨o,0,none⟩)),z,A,B,C,g,j,(.pointer (some ⟨d,0,none⟩)),u13,u14,u15,u16,u17,u18,m],[]⟩ W:=by
  refine ⟨fun h=>(by rw [R _ [1,4] (by kernel_rfl)] at h;cases h),fun i b e a=>?_⟩;rw [R _ [1,4] (by kernel_rfl)] at b;subst D;simp only [bH,aV,Tryz.f129] at a ⊢;simp only [List.mem_cons,List.not_mem_nil,or_false] at b
  rcases b with rfl | rfl
  ·exact LoneTo.goes (n:=1) (by s_op;s_stop;exact a _ _ a6)
  ·exact LoneTo.goes (n:=1) (by s_op;s_stop;exact a _ _ K)
 have a1:cZ Tryz.prog Q (base 129) k p f 8 #[false,false,false,false,false,false,false,false] ⟨#[(.pointer (some ⟨d,0,none⟩)),q,t,u,y,(.pointer (some ⟨o,0,none⟩)),z,A,B,C,g,j,u12,u13,u14,u15,u16,u17,u18,m],[]⟩ W:=by
  refine ⟨fun h=>(by rw [R _ [0,4] (by kernel_rfl)] at h;cases h),fun i b e a=>?_⟩;rw [R _ [0,4] (by kernel_rfl)] at b;subst D;simp only [bH,aV,Tryz.f129] at a ⊢;simp only [List.mem_cons,List.not_mem_nil,or_false] at b
  rcases b with rfl | rfl
  ·exact LoneTo.goes (n:=1) (by s_op;s_stop;exact a _ _ a5)
  ·exact LoneTo.goes (n:=1) (by s_op;s_stop;exact a _ _ a2)
 subst D;exact a1
theorem EZ (Q:Goroutine→World→Prop) (k:List Item) (p:List Frame) (d H o F s r id:Nat) (E:Array Value) (P:Int) (w:World) (hc:w.cell? ⟨d,9,none⟩=some (.chan (some H))) (hP:w.cell? ⟨o,0,none⟩=some (.int .i64 P)) (a0:w.heap[H]? =some (.chan F E false s r false)) (J:E.size < F) (q t u y z A B C g j u12 u13 u14 u15 u16 u17 u18 m:Value)
  (hk:LoneTo Tryz.prog Q (G ((base 131).at ⟨#[(.pointer (some ⟨d,0,none⟩)),q,t,u,y,(.pointer (some ⟨o,0,none⟩)),z,A,B,C,g,j,(.pointer (some ⟨d,0,none⟩)),(.pointer (some ⟨d,0,none⟩)),(.pointer (some ⟨d,9,none⟩)),(.chan (some H)),(.pointer (some ⟨o,0,none⟩)),(.int .i64 P),(.agg #[.int .i64 P,.bool true]),m],[]⟩ k) p) (w.drew.setChan H F (E.push (.agg #[.int .i64 P,.bool true])) false (s+1) r false)):
  LoneTo Tryz.prog Q (G ((base 131).at ⟨#[(.pointer (some ⟨d,0,none⟩)),q,t,u,y,(.pointer (some ⟨o,0,none⟩)),z,A,B,C,g,j,u12,u13,u14,u15,u16,u17,u18,m],[]⟩ (.code (.region id (bH (aV Tryz.f131.body)) true)::k)) p) w:=by
 refine mA (by kernel_rfl) ?_;have b1:w.drew.cell? ⟨d,9,none⟩=some (.chan (some H)):=hc;have b0:w.drew.cell? ⟨o,0,none⟩=some (.int .i64 P):=hP;have I:w.drew.heap[H]? =some (.chan F E false s r false):=a0;obtain ⟨W,hW⟩:∃W,w.drew=W:=⟨_,rfl⟩;rw [hW] at b1 b0 I hk;show cZ _ _ _ _ _ _ 8 #[false,false,false,false,false,false,false,false] _ w.drew;rw [hW];clear hc hP a0 hW;obtain ⟨f,D⟩:∃f,bH (aV Tryz.f131.body)=f:=⟨_,rfl⟩;have R:∀l x,Region.ready .any (bH (aV Tryz.f131.body)) l=x→Region.ready .any f l=x:=fun l x h=>by rw [←D];exact h
 have a9:cZ Tryz.prog Q (base 131) k p f 0 #[true,true,true,true,true,true,true,true] ⟨#[(.pointer (some ⟨d,0,none⟩)),q,t,u,y,(.pointer (some ⟨o,0,none⟩)),z,A,B,C,g,j,(.pointer (some ⟨d,0,none⟩)),(.pointer (some ⟨d,0,none⟩)),(.pointer (some ⟨d,9,none⟩)),(.chan (some H)),(.pointer (some ⟨o,0,none⟩)),(.int .i64 P),(.agg #[.int .i64 P,.bool true]),m],[]⟩ (W.setChan H F (E.push (.agg #[.int .i64 P,.bool true])) false (s+1) r false):=
  ⟨R _ _ (by kernel_rfl),LoneTo.goes (n:=1) (by s_c stepG_region_end;s_stop;exact hk)⟩
 have Z:cZ Tryz.prog Q (base 131) k p f 1 #[true,true,true,true,true,true,true,false] ⟨#[(.pointer (some ⟨d,0,none⟩)),q,t,u,y,(.pointer (some ⟨o,0,none⟩)),z,A,B,C,g,j,(.pointer (some ⟨d,0,none⟩)),(.pointer (some ⟨d,0,none⟩)),(.pointer (some ⟨d,9,none⟩)),(.chan (some H)),(.pointer (some ⟨o,0,none⟩)),(.int .i64 P),(.agg #[.int .i64 P,.bool true]),m],[]⟩ W:=by
  refine ⟨fun h=>(by rw [R _ [7] (by kernel_rfl)] at h;cases h),fun i b e a=>?_⟩;rw [R _ [7] (by kernel_rfl),List.mem_singleton] at b;subst b;subst D;simp only [bH,aV,Tryz.f131] at a ⊢;refine LoneTo.step (step_lone_send_room (c:=H) (cap:=F) (buf:=E) (s:=s) (r:=r) (tm:=false) (v:= .agg #[.int .i64 P,.bool true]) (stepG_comm (cases:=#[scase H (.agg #[.int .i64 P,.bool true]) (.tuple #[])]) (blocking:=true) (shape:= .send) (w':=W) rfl rfl (by decide) (by simp [execOp,scase,Act.eval])) I J) ?_;rw [Frame.finish_at];exact a _ _ a9
 have V:cZ Tryz.prog Q (base 131) k p f 2 #[true,true,true,false,true,true,true,false] ⟨#[(.pointer (some ⟨d,0,none⟩)),q,t,u,y,(.pointer (some ⟨o,0,none⟩)),z,A,B,C,g,j,(.pointer (some ⟨d,0,none⟩)),(.pointer (some ⟨d,0,none⟩)),(.pointer (some ⟨d,9,none⟩)),u15,(.pointer (some ⟨o,0,none⟩)),(.int .i64 P),(.agg #[.int .i64 P,.bool true]),m],[]⟩ W:=by
  refine ⟨fun h=>(by rw [R _ [3] (by kernel_rfl)] at h;cases h),fun i b e a=>?_⟩;rw [R _ [3] (by kernel_rfl)] at b;subst D;simp only [bH,aV,Tryz.f131] at a ⊢;rw [List.mem_singleton] at b;subst b;exact LoneTo.goes (n:=1) (by s_op;s_stop;exact a _ _ Z)
 have Y:cZ Tryz.prog Q (base 131) k p f 2 #[true,true,true,true,true,true,false,false] ⟨#[(.pointer (some ⟨d,0,none⟩)),q,t,u,y,(.pointer (some ⟨o,0,none⟩)),z,A,B,C,g,j,(.pointer (some ⟨d,0,none⟩)),(.pointer (some ⟨d,0,none⟩)),(.pointer (some ⟨d,9,none⟩)),(.chan (some H)),(.pointer (some ⟨o,0,none⟩)),(.int .i64 P),u18,m],[]⟩ W:=by
  refine ⟨fun h=>(by rw [R _ [6] (by kernel_rfl)] at h;cases h),fun i b e a=>?_⟩;rw [R _ [6] (by kernel_rfl)] at b;subst D;simp only [bH,aV,Tryz.f131] at a ⊢;rw [List.mem_singleton] at b;subst b;exact LoneTo.goes (n:=1) (by s_op;s_stop;exact a _ _ Z)
 have S:cZ Tryz.prog Q (base 131) k p f 3 #[true,true,false,false,true,true,true,false] ⟨#[(.pointer (some ⟨d,0,none⟩)),q,t,u,y,(.pointer (some ⟨o,0,none⟩)),z,A,B,C,g,j,(.pointer (some ⟨d,0,none⟩)),(.pointer (some ⟨d,0,none⟩)),u14,u15,(.pointer (some ⟨o,0,none⟩)),(.int .i64 P),(.agg #[.int .i64 P,.bool true]),m],[]⟩ W:=by
  refine ⟨fun h=>(by rw [R _ [2] (by kernel_rfl)] at h;cases h),fun i b e a=>?_⟩;rw [R _ [2] (by kernel_rfl)] at b;subst D;simp only [bH,aV,Tryz.f131] at a ⊢;rw [List.mem_singleton] at b;subst b;exact LoneTo.goes (n:=1) (by s_op;s_stop;exact a _ _ V)
 have U:cZ Tryz.prog Q (base 131) k p f 3 #[true,true,true,false,true,true,false,false] ⟨#[(.pointer (some ⟨d,0,none⟩)),q,t,u,y,(.pointer (some ⟨o,0,none⟩)),z,A,B,C,g,j,(.pointer (some ⟨d,0,none⟩)),(.pointer (some ⟨d,0,none⟩)),(.pointer (some ⟨d,9,none⟩)),u15,(.pointer (some ⟨o,0,none⟩)),(.int .i64 P),u18,m],[]⟩ W:=by
  refine ⟨fun h=>(by rw [R _ [3,6] (by kernel_rfl)] at h;cases h),fun i b e a=>?_⟩;rw [R _ [3,6] (by kernel_rfl)] at b;subst D;simp only [bH,aV,Tryz.f131] at a ⊢;simp only [List.mem_cons,List.not_mem_nil,or_false] at b
  rcases b with rfl | rfl
  ·exact LoneTo.goes (n:=1) (by s_op;s_stop;exact a _ _ Y)
  ·exact LoneTo.goes (n:=1) (by s_op;s_stop;exact a _ _ V)
 have X:cZ Tryz.prog Q (base 131) k p f 3 #[true,true,true,true,true,false,false,false] ⟨#[(.pointer (some ⟨d,0,none⟩)),q,t,u,y,(.pointer (some ⟨o,0,none⟩)),z,A,B,C,g,j,(.pointer (some ⟨d,0,none⟩)),(.pointer (some ⟨d,0,none⟩)),(.pointer (some ⟨d,9,none⟩)),(.chan (some H)),(.pointer (some ⟨o,0,none⟩)),u17,u18,m],[]⟩ W:=by
  refine ⟨fun h=>(by rw [R _ [5] (by kernel_rfl)] at h;cases h),fun i b e a=>?_⟩;rw [R _ [5] (by kernel_rfl)] at b;subst D;simp only [bH,aV,Tryz.f131] at a ⊢;rw [List.mem_singleton] at b;subst b;exact LoneTo.goes (n:=1) (by s_op;s_stop;exact a _ _ Y)
 have M:cZ Tryz.prog Q (base 131) k p f 4 #[true,false,false,false,true,true,true,false] ⟨#[(.pointer (some ⟨d,0,none⟩)),q,t,u,y,(.pointer (some ⟨o,0,none⟩)),z,A,B,C,g,j,(.pointer (some ⟨d,0,none⟩)),u13,u14,u15,(.pointer (some ⟨o,0,none⟩)),(.int .i64 P),(.agg #[.int .i64 P,.bool true]),m],[]⟩ W:=by
  refine ⟨fun h=>(by rw [R _ [1] (by kernel_rfl)] at h;cases h),fun i b e a=>?_⟩;rw [R _ [1] (by kernel_rfl)] at b;subst D;simp only [bH,aV,Tryz.f131] at a ⊢;rw [List.mem_singleton] at b;subst b;exact LoneTo.goes (n:=1) (by s_op;s_stop;exact a _ _ S)
 have O:cZ Tryz.prog Q (base 131) k p f 4 #[true,true,false,false,true,true,false,false] ⟨#[(.pointer (some ⟨d,0,none⟩)),q,t,u,y,(.pointer (some ⟨o,0,none⟩)),z,A,B,C,g,j,(.pointer (some ⟨d,0,none⟩)),(.pointer (some ⟨d,0,none⟩)),u14,u15,(.pointer (some ⟨o,0,none⟩)),(.int .i64 P),u18,m],[]⟩ W:=by
  refine ⟨fun h=>(by rw [R _ [2,6] (by kernel_rfl)] at h;cases h),fun i b e a=>?_⟩;rw [R _ [2,6] (by kernel_rfl)] at b;subst D;simp only [bH,aV,Tryz.f131] at a ⊢;simp only [List.mem_cons,List.not_mem_nil,or_false] at b
  rcases b with rfl | rfl
  ·exact LoneTo.goes (n:=1) (by s_op;s_stop;exact a _ _ U)
  ·exact LoneTo.goes (n:=1) (by s_op;s_stop;exact a _ _ S)
 have T:cZ Tryz.prog Q (base 131) k p f 4 #[true,true,true,false,true,false,false,false] ⟨#[(.pointer (some ⟨d,0,none⟩)),q,t,u,y,(.pointer (some ⟨o,0,none⟩)),z,A,B,C,g,j,(.pointer (some ⟨d,0,none⟩)),(.pointer (some ⟨d,0,none⟩)),(.pointer (some ⟨d,9,none⟩)),u15,(.pointer (some ⟨o,0,none⟩)),u17,u18,m],[]⟩ W:=by
  refine ⟨fun h=>(by rw [R _ [3,5] (by kernel_rfl)] at h;cases h),fun i b e a=>?_⟩;rw [R _ [3,5] (by kernel_rfl)] at b;subst D;simp only [bH,aV,Tryz.f131] at a ⊢;simp only [List.mem_cons,List.not_mem_nil,or_false] at b
  rcases b with rfl | rfl
  ·exact LoneTo.goes (n:=1) (by s_op;s_stop;exact a _ _ X)
  ·exact LoneTo.goes (n:=1) (by s_op;s_stop;exact a _ _ U)
 have a8:cZ Tryz.prog Q (base 131) k p f 4 #[true,true,true,true,false,false,false,false] ⟨#[(.pointer (some ⟨d,0,none⟩)),q,t,u,y,(.pointer (some ⟨o,0,none⟩)),z,A,B,C,g,j,(.pointer (some ⟨d,0,none⟩)),(.pointer (some ⟨d,0,none⟩)),(.pointer (some ⟨d,9,none⟩)),(.chan (some H)),u16,u17,u18,m],[]⟩ W:=by
  refine ⟨fun h=>(by rw [R _ [4] (by kernel_rfl)] at h;cases h),fun i b e a=>?_⟩;rw [R _ [4] (by kernel_rfl)] at b;subst D;simp only [bH,aV,Tryz.f131] at a ⊢;rw [List.mem_singleton] at b;subst b;exact LoneTo.goes (n:=1) (by s_op;s_stop;exact a _ _ X)
 have a4:cZ Tryz.prog Q (base 131) k p f 5 #[false,false,false,false,true,true,true,false] ⟨#[(.pointer (some ⟨d,0,none⟩)),q,t,u,y,(.pointer (some ⟨o,0,none⟩)),z,A,B,C,g,j,u12,u13,u14,u15,(.pointer (some ⟨o,0,none⟩)),(.int .i64 P),(.agg #[.int .i64 P,.bool true]),m],[]⟩ W:=by
  refine ⟨fun h=>(by rw [R _ [0] (by kernel_rfl)] at h;cases h),fun i b e a=>?_⟩;rw [R _ [0] (by kernel_rfl)] at b;subst D;simp only [bH,aV,Tryz.f131] at a ⊢;rw [List.mem_singleton] at b;subst b;exact LoneTo.goes (n:=1) (by s_op;s_stop;exact a _ _ M)
 have L:cZ Tryz.prog Q (base 131) k p f 5 #[true,false,false,false,true,true,false,false] ⟨#[(.pointer (some ⟨d,0,none⟩)),q,t,u,y,(.pointer (some ⟨o,0,none⟩)),z,A,B,C,g,j,(.pointer (some ⟨d,0,none⟩)),u13,u14,u15,(.pointer (some ⟨o,0,none⟩)),(.int .i64 P),u18,m],[]⟩ W:=by
  refine ⟨fun h=>(by rw [R _ [1,6] (by kernel_rfl)] at h;cases h),fun i b e a=>?_⟩;rw [R _ [1,6] (by kernel_rfl)] at b;subst D;simp only [bH,aV,Tryz.f131] at a ⊢;simp only [List.mem_cons,List.not_mem_nil,or_false] at b
  rcases b with rfl | rfl
  ·exact LoneTo.goes (n:=1) (by s_op;s_stop;exact a _ _ O)
  ·exact LoneTo.goes (n:=1) (by s_op;s_stop;exact a _ _ M)
 have N:cZ Tryz.prog Q (base 131) k p f 5 #[true,true,false,false,true,false,false,false] ⟨#[(.pointer (some ⟨d,0,none⟩)),q,t,u,y,(.pointer (some ⟨o,0,none⟩)),z,A,B,C,g,j,(.pointer (some ⟨d,0,none⟩)),(.pointer (some ⟨d,0,none⟩)),u14,u15,(.pointer (some ⟨o,0,none⟩)),u17,u18,m],[]⟩ W:=by
  refine ⟨fun h=>(by rw [R _ [2,5] (by kernel_rfl)] at h;cases h),fun i b e a=>?_⟩;rw [R _ [2,5] (by kernel_rfl)] at b;subst D;simp only [bH,aV,Tryz.f131] at a ⊢;simp only [List.mem_cons,List.not_mem_nil,or_false] at b
  rcases b with rfl | rfl
  ·exact LoneTo.goes (n:=1) (by s_op;s_stop;exact a _ _ T)
  ·exact LoneTo.goes (n:=1) (by s_op;s_stop;exact a _ _ O)
 have a7:cZ Tryz.prog Q (base 131) k p f 5 #[true,true,true,false,false,false,false,false] ⟨#[(.pointer (some ⟨d,0,none⟩)),q,t,u,y,(.pointer (some ⟨o,0,none⟩)),z,A,B,C,g,j,(.pointer (some ⟨d,0,none⟩)),(.pointer (some ⟨d,0,none⟩)),(.pointer (some ⟨d,9,none⟩)),u15,u16,u17,u18,m],[]⟩ W:=by
  refine ⟨fun h=>(by rw [R _ [3,4] (by kernel_rfl)] at h;cases h),fun i b e a=>?_⟩;rw [R _ [3,4] (by kernel_rfl)] at b;subst D;simp only [bH,aV,Tryz.f131] at a ⊢;simp only [List.mem_cons,List.not_mem_nil,or_false] at b
  rcases b with rfl | rfl
  ·exact LoneTo.goes (n:=1) (by s_op;s_stop;exact a _ _ a8)
  ·exact LoneTo.goes (n:=1) (by s_op;s_stop;exact a _ _ T)
 have a3:cZ Tryz.prog Q (base 131) k p f 6 #[false,false,false,false,true,true,false,false] ⟨#[(.pointer (some ⟨d,0,none⟩)),q,t,u,y,(.pointer (some ⟨o,0,none⟩)),z,A,B,C,g,j,u12,u13,u14,u15,(.pointer (some ⟨o,0,none⟩)),(.int .i64 P),u18,m],[]⟩ W:=by
  refine ⟨fun h=>(by rw [R _ [0,6] (by kernel_rfl)] at h;cases h),fun i b e a=>?_⟩;rw [R _ [0,6] (by kernel_rfl)] at b;subst D;simp only [bH,aV,Tryz.f131] at a ⊢;simp only [List.mem_cons,List.not_mem_nil,or_false] at b
  rcases b with rfl | rfl
  ·exact LoneTo.goes (n:=1) (by s_op;s_stop;exact a _ _ L)
  ·exact LoneTo.goes (n:=1) (by s_op;s_stop;exact a _ _ a4)
 have K:cZ Tryz.prog Q (base 131) k p f 6 #[true,false,false,false,true,false,false,false] ⟨#[(.pointer (some ⟨d,0,none⟩)),q,t,u,y,(.pointer (some ⟨o,0,none⟩)),z,A,B,C,g,j,(.pointer (some ⟨d,0,none⟩)),u13,u14,u15,(.pointer (some ⟨o,0,none⟩)),u17,u18,m],[]⟩ W:=by
  refine ⟨fun h=>(by rw [R _ [1,5] (by kernel_rfl)] at h;cases h),fun i b e a=>?_⟩;rw [R _ [1,5] (by kernel_rfl)] at b;subst D;simp only [bH,aV,Tryz.f131] at a ⊢;simp only [List.mem_cons,List.not_mem_nil,or_false] at b
  rcases b with rfl | rfl
  ·exact LoneTo.goes (n:=1) (by s_op;s_stop;exact a _ _ N)
  ·exact LoneTo.goes (n:=1) (by s_op;s_stop;exact a _ _ L)
 have a6:cZ Tryz.prog Q (base 131) k p f 6 #[true,true,false,false,false,false,false,false] ⟨#[(.pointer (some ⟨d,0,none⟩)),q,t,u,y,(.pointer (some ⟨o,0,none⟩)),z,A,B,C,g,j,(.pointer (some ⟨d,0,none⟩)),(.pointer (some ⟨d,0,none⟩)),u14,u15,u16,u17,u18,m],[]⟩ W:=by
  refine ⟨fun h=>(by rw [R _ [2,4] (by kernel_rfl)] at h;cases h),fun i b e a=>?_⟩;rw [R _ [2,4] (by kernel_rfl)] at b;subst D;simp only [bH,aV,Tryz.f131] at a ⊢;simp only [List.mem_cons,List.not_mem_nil,or_false] at b
  rcases b with rfl | rfl
  ·exact LoneTo.goes (n:=1) (by s_op;s_stop;exact a _ _ a7)
  ·exact LoneTo.goes (n:=1) (by s_op;s_stop;exact a _ _ N)
 have a2:cZ Tryz.prog Q (base 131) k p f 7 #[false,false,false,false,true,false,false,false] ⟨#[(.pointer (some ⟨d,0,none⟩)),q,t,u,y,(.pointer (some ⟨o,0,none⟩)),z,A,B,C,g,j,u12,u13,u14,u15,(.pointer (some ⟨o,0,none⟩)),u17,u18,m],[]⟩ W:=by
  refine ⟨fun h=>(by rw [R _ [0,5] (by kernel_rfl)] at h;cases h),fun i b e a=>?_⟩;rw [R _ [0,5] (by kernel_rfl)] at b;subst D;simp only [bH,aV,Tryz.f131] at a ⊢;simp only [List.mem_cons,List.not_mem_nil,or_false] at b
  rcases b with rfl | rfl
  ·exact LoneTo.goes (n:=1) (by s_op;s_stop;exact a _ _ K)
  ·exact LoneTo.goes (n:=1) (by s_op;s_stop;exact a _ _ a3)
 have a5:cZ Tryz.prog Q (base 131) k p f 7 #[true,false,false,false,false,false,false,false] ⟨#[(.pointer (some ⟨d,0,none⟩)),q,t,u,y,(.pointer (some ⟨o,0,none⟩)),z,A,B,C,g,j,(.pointer (some ⟨d,0,none⟩)),u13,u14,u15,u16,u17,u18,m],[]⟩ W:=by
  refine ⟨fun h=>(by rw [R _ [1,4] (by kernel_rfl)] at h;cases h),fun i b e a=>?_⟩;rw [R _ [1,4] (by kernel_rfl)] at b;subst D;simp only [bH,aV,Tryz.f131] at a ⊢;simp only [List.mem_cons,List.not_mem_nil,or_false] at b
  rcases b with rfl | rfl
  ·exact LoneTo.goes (n:=1) (by s_op;s_stop;exact a _ _ a6)
  ·exact LoneTo.goes (n:=1) (by s_op;s_stop;exact a _ _ K)
 have a1:cZ Tryz.prog Q (base 131) k p f 8 #[false,false,false,false,false,false,false,false] ⟨#[(.pointer (some ⟨d,0,none⟩)),q,t,u,y,(.pointer (some ⟨o,0,none⟩)),z,A,B,C,g,j,u12,u13,u14,u15,u16,u17,u18,m],[]⟩ W:=by
  refine ⟨fun h=>(by rw [R _ [0,4] (by kernel_rfl)] at h;cases h),fun i b e a=>?_⟩;rw [R _ [0,4] (by kernel_rfl)] at b;subst D;simp only [bH,aV,Tryz.f131] at a ⊢;simp only [List.mem_cons,List.not_mem_nil,or_false] at b
  rcases b with rfl | rfl
  ·exact LoneTo.goes (n:=1) (by s_op;s_stop;exact a _ _ a5)
  ·exact LoneTo.goes (n:=1) (by s_op;s_stop;exact a _ _ a2)
 subst D;exact a1
def gx (l:List (Nat×List UInt8)) (b:Bool):List Value:=l.map fun x=>df (x.1,b)
theorem AB (B c b L:Nat) (a:Option Addr) (l:List (Nat×List UInt8)) (C:World) (cs:List Frame) (R:World→Prop) (hl:l.length≤1000)
  (y:∀k (hk:k < l.length),∃g d,a=some ⟨g,d,none⟩∧g≠c∧C.cell? ⟨g,d+k * 2,none⟩=some (.int .i64 (l[k].1:Int))∧C.cell? ⟨g,d+k * 2+1,none⟩=some (.string (bs l[k].2)))
  (Z:B≠c) (f:C.cell? ⟨B,9,none⟩=some (.chan (some c))):
  ∀(m k:Nat) (w:World) (s r:Nat) (h:List Value) (u2 u3 u4 u5 u9 u10 u11 u12 u13 u14 u15 u16 u17 u18 u19:Value),k+m=l.length→aH (fun j=>j=c) C w→w.heap[c]? =some (.chan b h.toArray false s r false)→h.length+m≤b→
   (∀u O N,aH (fun j=>j=c) C u→u.heap[c]? =some (.chan b (h++gx (l.drop k) false).toArray false O N false)→R u)→
   LoneTo Tryz.prog (fun g' u=>∃e X,g'=G X cs∧(e= .returned (.tuple #[])∧R u)∧X.fn=129∧X.leaving Tryz.prog u e)
    (G ((base 129).at ⟨#[.pointer (some ⟨B,0,none⟩),.slice a l.length L,u2,u3,u4,u5,.slice a l.length L,.int .i64 l.length,.int .i64 k,u9,u10,u11,u12,u13,u14,u15,u16,u17,u18,u19],[]⟩ [.code (aV Tryz.f129.body),.inLoop (aV Tryz.f129.body),.inBlock 0]) cs) w:=by
 intro m
 induction m with
 | zero=>
  intro k w s r h u2 u3 u4 u5 u9 u10 u11 u12 u13 u14 u15 u16 u17 u18 u19 hk q p _ M;have H:=M w s r q (by rw [List.drop_eq_nil_of_le (by omega)];simpa [gx] using p);have A:¬(k:Int) < (l.length:Int):=by omega
  obtain ⟨n,D⟩:∃n,l.length=n:=⟨_,rfl⟩;rw [D] at A ⊢;clear M y p q;refine LoneTo.goes (n:=30) ?_;simp only [aV,Tryz.f129]
  s_c stepG_seq
  s_reg
  s_op
  s_c stepG_region_end
  s_c stepG_seq
  s_cond false
  s_exit
  s_c stepG_end
  s_stop
  exact LoneTo.done ⟨.returned (.tuple #[]),_,rfl,⟨rfl,H⟩,rfl,rfl,rfl,rfl,_,Tryz.func129,by simp [results,Tryz.f129,Frame.at]⟩
 | succ m ih=>
  intro k w s r h u2 u3 u4 u5 u9 u10 u11 u12 u13 u14 u15 u16 u17 u18 u19 hk q p Y M;have J:k < l.length:=by omega
  obtain ⟨g,d,rfl,hg,T,U⟩:=y k J;have A:(k:Int) < (l.length:Int):=by omega
  have V:w.cell? ⟨g,d+k * 2,none⟩=some (.int .i64 (l[k].1:Int)):=(World.cell?_of_block (q.block g (aC T) hg)).trans T;have W:w.cell? ⟨g,d+k * 2+1,none⟩=some (.string (bs l[k].2)):=(World.cell?_of_block (q.block g (aC U) hg)).trans U;have F:l.drop k=l[k]::l.drop (k+1):=List.drop_eq_getElem_cons J;obtain ⟨x,ex⟩:∃x,l[k]=x:=⟨_,rfl⟩;rw [ex] at V W F;obtain ⟨P,nm⟩:=x;simp only at V W;obtain ⟨n,D⟩:∃n,l.length=n:=⟨_,rfl⟩;have eS:(Value.slice (some ⟨g,d,none⟩) l.length L)= .slice (some ⟨g,d,none⟩) n L:=by rw [D]
  rw [D] at A;have t:=ih (k+1);simp only [aV,Tryz.f129] at t ⊢;rw [D] at t ⊢;refine LoneTo.goes (n:=60) ?_
  s_c stepG_seq
  s_reg
  s_op
  s_c stepG_region_end
  s_c stepG_seq
  s_cond true
  s_c stepG_skip
  s_c stepG_seq
  s_c stepG_block
  s_c stepG_seq
  s_reg
  s_op
  s_op
  s_op
  s_op
  s_c stepG_region_end
  s_stop
  have S:=heap_alloc_new w (.cells #[.int .i64 (P:Int),.string (bs nm)] 162);obtain ⟨i,z⟩:∃i:World,w.alloc (.cells #[.int .i64 (P:Int),.string (bs nm)] 162)=i:=⟨_,rfl⟩;have K:Below w.heap.size w i:=by rw [←z];exact (Below.refl _ _).alloc (Nat.le_refl _) _
  rw [z] at S ⊢;have p1:i.cell? ⟨w.heap.size,0,none⟩=some (.int .i64 (P:Int)):=by rw [Lib.cell_of_heap S];rfl
  have t1:i.cell? ⟨B,9,none⟩=some (.chan (some c)):=(K.cell (Nat.lt_of_lt_of_le (aC f) q.size)).trans ((World.cell?_of_block (q.block B (aC f) Z)).trans f);have q1:=ae K p;have v:c < i.drew.heap.size:=ah q1
  have K1:aH (fun j=>j=c) C (i.drew.setChan c b (h.toArray.push (df (P,false))) false (s+1) r false):=by
   refine (q.trans (aH.below (K.drew):aH (fun j=>j=c) w i.drew) (fun _ _ e=>e)).trans ?_ (fun _ _ e=>e);exact ⟨by simp [World.setChan],fun j hj hn=>by simp [World.setChan,Array.getElem?_setIfInBounds_ne (Ne.symm hn)],⟨rfl,rfl,rfl⟩⟩
  have q2:=heap_setChan i.drew c b (h.toArray.push (df (P,false))) false (s+1) r false v;refine AD _ _ _ B c w.heap.size b s r _ h.toArray (P:Int) i t1 p1 q1 (by rw [List.size_toArray];omega) _ _ _ _ _ _ _ _ _ _ _ _ _ _ _ _ _ _ ?_;have o:h.toArray.push (df (P,false))=(h++[df (P,false)]).toArray:=by simp
  have a0:IntKind.i64.wrap ((k:Int)+1)=(k:Int)+1:=by rw [IntKind.wrap_i64];omega
  change LoneTo _ _ _ (i.drew.setChan c b (h.toArray.push (df (P,false))) false (s+1) r false);obtain ⟨Q,E⟩:∃Q:World,i.drew.setChan c b (h.toArray.push (df (P,false))) false (s+1) r false=Q:=⟨_,rfl⟩;rw [E] at K1 q2 ⊢;rw [o] at q2;have I:=t Q (s+1) r (h++[df (P,false)]);clear E z S K p1 t1 q1 v ih t p q V W T U o;refine LoneTo.goes (n:=20) ?_
  s_c stepG_inBlock
  s_reg
  s_op
  s_op
  s_c stepG_region_end
  s_c stepG_inLoop
  s_stop
  rw [show (k:Int)+1=((k+1:Nat):Int) from rfl]
  exact I _ _ _ _ _ _ _ _ _ _ _ _ _ _ _ (by omega) K1 q2 (by rw [List.length_append];simp only [List.length_cons,List.length_nil];omega) (fun u O N h1 h2=>M u O N h1 (by
   rw [F];show u.heap[c]? =some (.chan b (h++(df (P,false)::gx (l.drop (k+1)) false)).toArray false O N false);rw [h2,List.append_assoc]
   rfl))
theorem CD (o g c:Nat) (v:Value) (l:List (Nat×List UInt8)) (w:World) (s r:Nat) (q:List Value) (K:l.length≤1000) (h:bg w v l.length 2 (aR l)) (J:v.ownBlock≠some g) (D:o≠g) (d:w.cell? ⟨o,9,none⟩=some (.chan (some g))) (t:w.heap[g]? =some (.chan c q.toArray false s r false)) (i:q.length+l.length≤c):
  Calls Tryz.prog 129 #[.pointer (some ⟨o,0,none⟩),v] w fun e p=>e= .returned (.tuple #[])∧aH (fun j=>j=g) w p∧∃y x,p.heap[g]? =some (.chan c (q++gx l false).toArray false y x false):=by
 obtain ⟨a,A,rfl,C⟩:=h.shape;refine calls_of_loneTo fun F=>?_
 have e:Frame.enter Tryz.prog 129 #[.pointer (some ⟨o,0,none⟩),.slice a l.length A] .normal=(base 129).at ⟨#[.pointer (some ⟨o,0,none⟩),.slice a l.length A,undef,undef,undef,undef,undef,undef,undef,undef,undef,undef,undef,undef,undef,undef,undef,undef,undef,undef],[]⟩ [.code (Tryz.f129.body.getD .skip)]:=by
  simp [Frame.enter,Frame.at,Tryz.func129,base,Tryz.f129]
 rw [e]
 have u:=fun u2 u3 u4 u5 u9 u10 u11 u12 u13 u14 u15 u16 u17 u18 u19=>AB o g c A a l w F (fun p=>aH (fun j=>j=g) w p∧∃y x,p.heap[g]? =some (.chan c (q++gx l false).toArray false y x false)) K (fun k z=>by
  obtain ⟨b,f,B,_,L⟩:=C k 0 z (by decide);obtain ⟨N,E,m,_,M⟩:=C k 1 z (by decide);rw [B] at m;injection m with m;injection m with m e3;subst m e3;refine ⟨b,f,B,fun G=>J (by rw [B,G];rfl),?_,?_⟩
  ·rw [show f+k * 2=f+(k * 2+0) by omega,L];exact (dP l k z).1
  ·rw [show f+k * 2+1=f+(k * 2+1) by omega,M];exact (dP l k z).2) D d l.length 0 w s r q u2 u3 u4 u5 u9 u10 u11 u12 u13 u14 u15 u16 u17 u18 u19 (by omega) (aH.refl _ _) t i (fun p y x H I=>⟨H,y,x,I⟩)
 clear t d C h e;simp only [aV,Tryz.f129] at u;refine LoneTo.goes (n:=20) ?_;simp only [Tryz.f129,Option.getD_some]
 s_c stepG_seq
 s_reg
 s_op
 s_op
 s_op
 s_c stepG_region_end
 s_c stepG_block
 s_c stepG_loop
 s_stop
 exact u _ _ _ _ _ _ _ _ _ _ _ _ _ _ _
theorem EY (B c b L:Nat) (a:Option Addr) (l:List (Nat×List UInt8)) (C:World) (cs:List Frame) (R:World→Prop) (hl:l.length≤1000)
  (y:∀k (hk:k < l.length),∃g d,a=some ⟨g,d,none⟩∧g≠c∧C.cell? ⟨g,d+k * 2,none⟩=some (.int .i64 (l[k].1:Int))∧C.cell? ⟨g,d+k * 2+1,none⟩=some (.string (bs l[k].2)))
  (Z:B≠c) (f:C.cell? ⟨B,9,none⟩=some (.chan (some c))):
  ∀(m k:Nat) (w:World) (s r:Nat) (h:List Value) (u2 u3 u4 u5 u9 u10 u11 u12 u13 u14 u15 u16 u17 u18 u19:Value),k+m=l.length→aH (fun j=>j=c) C w→w.heap[c]? =some (.chan b h.toArray false s r false)→h.length+m≤b→
   (∀u O N,aH (fun j=>j=c) C u→u.heap[c]? =some (.chan b (h++gx (l.drop k) true).toArray false O N false)→R u)→
   LoneTo Tryz.prog (fun g' u=>∃e X,g'=G X cs∧(e= .returned (.tuple #[])∧R u)∧X.fn=131∧X.leaving Tryz.prog u e)
    (G ((base 131).at ⟨#[.pointer (some ⟨B,0,none⟩),.slice a l.length L,u2,u3,u4,u5,.slice a l.length L,.int .i64 l.length,.int .i64 k,u9,u10,u11,u12,u13,u14,u15,u16,u17,u18,u19],[]⟩ [.code (aV Tryz.f131.body),.inLoop (aV Tryz.f131.body),.inBlock 0]) cs) w:=by
 intro m
 induction m with
 | zero=>
  intro k w s r h u2 u3 u4 u5 u9 u10 u11 u12 u13 u14 u15 u16 u17 u18 u19 hk q p _ M;have H:=M w s r q (by rw [List.drop_eq_nil_of_le (by omega)];simpa [gx] using p);have A:¬(k:Int) < (l.length:Int):=by omega
  obtain ⟨n,D⟩:∃n,l.length=n:=⟨_,rfl⟩;rw [D] at A ⊢;clear M y p q;refine LoneTo.goes (n:=30) ?_;simp only [aV,Tryz.f131]
  s_c stepG_seq
  s_reg
  s_op
  s_c stepG_region_end
  s_c stepG_seq
  s_cond false
  s_exit
  s_c stepG_end
  s_stop
  exact LoneTo.done ⟨.returned (.tuple #[]),_,rfl,⟨rfl,H⟩,rfl,rfl,rfl,rfl,_,Tryz.func131,by simp [results,Tryz.f131,Frame.at]⟩
 | succ m ih=>
  intro k w s r h u2 u3 u4 u5 u9 u10 u11 u12 u13 u14 u15 u16 u17 u18 u19 hk q p Y M;have J:k < l.length:=by omega
  obtain ⟨g,d,rfl,hg,T,U⟩:=y k J;have A:(k:Int) < (l.length:Int):=by omega
  have V:w.cell? ⟨g,d+k * 2,none⟩=some (.int .i64 (l[k].1:Int)):=(World.cell?_of_block (q.block g (aC T) hg)).trans T;have W:w.cell? ⟨g,d+k * 2+1,none⟩=some (.string (bs l[k].2)):=(World.cell?_of_block (q.block g (aC U) hg)).trans U;have F:l.drop k=l[k]::l.drop (k+1):=List.drop_eq_getElem_cons J;obtain ⟨x,ex⟩:∃x,l[k]=x:=⟨_,rfl⟩;rw [ex] at V W F;obtain ⟨P,nm⟩:=x;simp only at V W;obtain ⟨n,D⟩:∃n,l.length=n:=⟨_,rfl⟩;have eS:(Value.slice (some ⟨g,d,none⟩) l.length L)= .slice (some ⟨g,d,none⟩) n L:=by rw [D]
  rw [D] at A;have t:=ih (k+1);simp only [aV,Tryz.f131] at t ⊢;rw [D] at t ⊢;refine LoneTo.goes (n:=60) ?_
  s_c stepG_seq
  s_reg
  s_op
  s_c stepG_region_end
  s_c stepG_seq
  s_cond true
  s_c stepG_skip
  s_c stepG_seq
  s_c stepG_block
  s_c stepG_seq
  s_reg
  s_op
  s_op
  s_op
  s_op
  s_c stepG_region_end
  s_stop
  have S:=heap_alloc_new w (.cells #[.int .i64 (P:Int),.string (bs nm)] 162);obtain ⟨i,z⟩:∃i:World,w.alloc (.cells #[.int .i64 (P:Int),.string (bs nm)] 162)=i:=⟨_,rfl⟩;have K:Below w.heap.size w i:=by rw [←z];exact (Below.refl _ _).alloc (Nat.le_refl _) _
  rw [z] at S ⊢;have p1:i.cell? ⟨w.heap.size,0,none⟩=some (.int .i64 (P:Int)):=by rw [Lib.cell_of_heap S];rfl
  have t1:i.cell? ⟨B,9,none⟩=some (.chan (some c)):=(K.cell (Nat.lt_of_lt_of_le (aC f) q.size)).trans ((World.cell?_of_block (q.block B (aC f) Z)).trans f);have q1:=ae K p;have v:c < i.drew.heap.size:=ah q1
  have K1:aH (fun j=>j=c) C (i.drew.setChan c b (h.toArray.push (df (P,true))) false (s+1) r false):=by
   refine (q.trans (aH.below (K.drew):aH (fun j=>j=c) w i.drew) (fun _ _ e=>e)).trans ?_ (fun _ _ e=>e);exact ⟨by simp [World.setChan],fun j hj hn=>by simp [World.setChan,Array.getElem?_setIfInBounds_ne (Ne.symm hn)],⟨rfl,rfl,rfl⟩⟩
  have q2:=heap_setChan i.drew c b (h.toArray.push (df (P,true))) false (s+1) r false v;refine EZ _ _ _ B c w.heap.size b s r _ h.toArray (P:Int) i t1 p1 q1 (by rw [List.size_toArray];omega) _ _ _ _ _ _ _ _ _ _ _ _ _ _ _ _ _ _ ?_;have o:h.toArray.push (df (P,true))=(h++[df (P,true)]).toArray:=by simp
  have a0:IntKind.i64.wrap ((k:Int)+1)=(k:Int)+1:=by rw [IntKind.wrap_i64];omega
  change LoneTo _ _ _ (i.drew.setChan c b (h.toArray.push (df (P,true))) false (s+1) r false);obtain ⟨Q,E⟩:∃Q:World,i.drew.setChan c b (h.toArray.push (df (P,true))) false (s+1) r false=Q:=⟨_,rfl⟩;rw [E] at K1 q2 ⊢;rw [o] at q2;have I:=t Q (s+1) r (h++[df (P,true)]);clear E z S K p1 t1 q1 v ih t p q V W T U o;refine LoneTo.goes (n:=20) ?_
  s_c stepG_inBlock
  s_reg
  s_op
  s_op
  s_c stepG_region_end
  s_c stepG_inLoop
  s_stop
  rw [show (k:Int)+1=((k+1:Nat):Int) from rfl]
  exact I _ _ _ _ _ _ _ _ _ _ _ _ _ _ _ (by omega) K1 q2 (by rw [List.length_append];simp only [List.length_cons,List.length_nil];omega) (fun u O N h1 h2=>M u O N h1 (by
   rw [F];show u.heap[c]? =some (.chan b (h++(df (P,true)::gx (l.drop (k+1)) true)).toArray false O N false);rw [h2,List.append_assoc]
   rfl))
theorem GQ (o g c:Nat) (v:Value) (l:List (Nat×List UInt8)) (w:World) (s r:Nat) (q:List Value) (K:l.length≤1000) (h:bg w v l.length 2 (aR l)) (J:v.ownBlock≠some g) (D:o≠g) (d:w.cell? ⟨o,9,none⟩=some (.chan (some g))) (t:w.heap[g]? =some (.chan c q.toArray false s r false)) (i:q.length+l.length≤c):
  Calls Tryz.prog 131 #[.pointer (some ⟨o,0,none⟩),v] w fun e p=>e= .returned (.tuple #[])∧aH (fun j=>j=g) w p∧∃y x,p.heap[g]? =some (.chan c (q++gx l true).toArray false y x false):=by
 obtain ⟨a,A,rfl,C⟩:=h.shape;refine calls_of_loneTo fun F=>?_
 have e:Frame.enter Tryz.prog 131 #[.pointer (some ⟨o,0,none⟩),.slice a l.length A] .normal=(base 131).at ⟨#[.pointer (some ⟨o,0,none⟩),.slice a l.length A,undef,undef,undef,undef,undef,undef,undef,undef,undef,undef,undef,undef,undef,undef,undef,undef,undef,undef],[]⟩ [.code (Tryz.f131.body.getD .skip)]:=by
  simp [Frame.enter,Frame.at,Tryz.func131,base,Tryz.f131]
 rw [e]
 have u:=fun u2 u3 u4 u5 u9 u10 u11 u12 u13 u14 u15 u16 u17 u18 u19=>EY o g c A a l w F (fun p=>aH (fun j=>j=g) w p∧∃y x,p.heap[g]? =some (.chan c (q++gx l true).toArray false y x false)) K (fun k z=>by
  obtain ⟨b,f,B,_,L⟩:=C k 0 z (by decide);obtain ⟨N,E,m,_,M⟩:=C k 1 z (by decide);rw [B] at m;injection m with m;injection m with m e3;subst m e3;refine ⟨b,f,B,fun G=>J (by rw [B,G];rfl),?_,?_⟩
  ·rw [show f+k * 2=f+(k * 2+0) by omega,L];exact (dP l k z).1
  ·rw [show f+k * 2+1=f+(k * 2+1) by omega,M];exact (dP l k z).2) D d l.length 0 w s r q u2 u3 u4 u5 u9 u10 u11 u12 u13 u14 u15 u16 u17 u18 u19 (by omega) (aH.refl _ _) t i (fun p y x H I=>⟨H,y,x,I⟩)
 clear t d C h e;simp only [aV,Tryz.f131] at u;refine LoneTo.goes (n:=20) ?_;simp only [Tryz.f131,Option.getD_some]
 s_c stepG_seq
 s_reg
 s_op
 s_op
 s_op
 s_c stepG_region_end
 s_c stepG_block
 s_c stepG_loop
 s_stop
 exact u _ _ _ _ _ _ _ _ _ _ _ _ _ _ _
section
variable {w w':World} {tb ch pp pb:Nat} {va vu vl:Value} {frm body:List UInt8} {cap:Nat} {t:aQ}
theorem wS (t:aQ) (l:List (Nat×List UInt8)) (b:Bool):t.came.map df++gx l b=(t.leave l b).came.map df:=by
 unfold aQ.leave gx;rw [List.map_append,List.map_map];rfl
theorem bR.sent (h:bR w tb ch pp pb va vu vl frm body cap false t) (l:List (Nat×List UInt8)) (b:Bool) (c:aH (fun j=>j=ch) w w') (f:∃s r,w'.heap[ch]? =some (.chan cap (t.came.map df++gx l b).toArray false s r false)):bR w' tb ch pp pb va vu vl frm body cap false (t.leave l b):=by
 obtain ⟨s,r,e⟩:=f;rw [wS] at e;exact ⟨c.some_ h.blk h.tc,⟨s,r,e⟩,h.una.chg c (fun g a d=>(h.at_ g (h.ua g a)).2.1 d),bC h.wil c (fun g a d=>(h.lb a).2.1 d),h.ua,h.al,fun k a=>⟨(h.at_ k a).1,(h.at_ k a).2.1,Nat.lt_of_lt_of_le (h.at_ k a).2.2 c.size⟩⟩
theorem pL (h:bR w tb ch pp pb va vu vl frm body cap false t) (v:Value) (l:List (Nat×List UInt8)) (g:bg w v l.length 2 (aR l)) (i:v.ownBlock≠some ch) (f:l.length≤1000) (a:t.came.length+l.length≤cap):
  Calls Tryz.prog 129 #[.pointer (some ⟨tb,0,none⟩),v] w fun e w'=>e= .returned (.tuple #[])∧bR w' tb ch pp pb va vu vl frm body cap false (t.leave l false)∧aH (lA tb ch va vl) w w':=by
 obtain ⟨s,r,d⟩:=h.chan;refine (CD tb ch cap v l w s r (t.came.map df) f g i h.tc (h.cell 9) d (by rw [List.length_map];exact a)).mono ?_;rintro e w' ⟨rfl,b,c⟩;exact ⟨rfl,h.sent l false b c,b.mono (fun k _ e=> .inr (.inl e))⟩
theorem JY (h:bR w tb ch pp pb va vu vl frm body cap false t) (v:Value) (l:List (Nat×List UInt8)) (g:bg w v l.length 2 (aR l)) (i:v.ownBlock≠some ch) (f:l.length≤1000) (a:t.came.length+l.length≤cap):
  Calls Tryz.prog 131 #[.pointer (some ⟨tb,0,none⟩),v] w fun e w'=>e= .returned (.tuple #[])∧bR w' tb ch pp pb va vu vl frm body cap false (t.leave l true)∧aH (lA tb ch va vl) w w':=by
 obtain ⟨s,r,d⟩:=h.chan;refine (GQ tb ch cap v l w s r (t.came.map df) f g i h.tc (h.cell 9) d (by rw [List.length_map];exact a)).mono ?_;rintro e w' ⟨rfl,b,c⟩;exact ⟨rfl,h.sent l true b c,b.mono (fun k _ e=> .inr (.inl e))⟩
theorem fQ.after {x:aQ×List UInt8} {d:World} {e:Ending} (c:aH (lA tb ch va vl) w d) (h:fQ tb ch pp pb va vl frm body cap d x e w'):fQ tb ch pp pb va vl frm body cap w x e w':=by
 obtain ⟨f,b,a,g,i,j⟩:=h;exact ⟨f,b,a,g,c.trans i (fun _ _ e=>e),fun k e=>(j k e).imp id (fun e=>Nat.le_trans c.size e)⟩
theorem qN (h:bR w tb ch pp pb va vu vl frm body cap false t) (b c:List UInt8) (q:w.cell? ⟨pp,0,none⟩=some (.string (bs b))) (r:b.length≤1000) (i:t.said=0) (a:Nat):
  Calls Tryz.prog 87 #[.pointer (some ⟨tb,0,none⟩),.int .i64 (a:Int)] w (fQ tb ch pp pb va vl frm body cap w (t.hear b frm c a)):=by
 by_cases g:a=2
 ·have d:t.hear b frm c a=t.say 1 ([69,72,76,79,32]++b):=by unfold aQ.hear;rw [if_pos i,if_pos g]
  rw [d];have p:w.cell? ⟨tb,0,none⟩=some (.pointer (some ⟨pp,0,none⟩)):=h.cell 0;have k:=Lib.hid (nZ h 1 ([69,72,76,79,32]++b) (by rw [List.length_append];simp only [List.length_cons,List.length_nil];omega));have l:Hid ((⟨#[69,72,76,79,32]⟩:ByteArray)++bs b=bs ([69,72,76,79,32]++b)):=Lib.hid (cE [69,72,76,79,32] b);have n:=aG b;subst g;clear h d i;go_enter Tryz.func87,Tryz.ntmps87;go_wp2_with fail
  rw [l.out];refine k.out.mono ?_;rintro e o ⟨rfl,f⟩;have j:=Lib.hid f;clear f;go_wp2_with fail
  go_ret;exact ⟨rfl,j.out⟩
 ·have d:t.hear b frm c a=t.quit:=by unfold aQ.hear;rw [if_pos i,if_neg g]
  rw [d];have m:((a:Int) == 2)=false:=by rw [beq_eq_false_iff_ne];omega
  have k:=Lib.hid (fD h);clear h d i g;go_enter Tryz.func87,Tryz.ntmps87;go_wp2_with fail
  refine k.out.mono ?_;rintro e o ⟨rfl,f⟩;have j:=Lib.hid f;clear f;go_wp2_with fail
  go_ret;exact ⟨rfl,j.out⟩
theorem wH (h:bR w tb ch pp pb va vu vl frm body cap false t) (b c:List UInt8) (q:frm.length≤1000) (i:t.said=1) (a:Nat):
  Calls Tryz.prog 88 #[.pointer (some ⟨tb,0,none⟩),.int .i64 (a:Int)] w (fQ tb ch pp pb va vl frm body cap w (t.hear b frm c a)):=by
 by_cases g:a=2
 ·have d:t.hear b frm c a=t.say 2 ([77,65,73,76,32,70,82,79,77,58,60]++frm++[62]):=by unfold aQ.hear;rw [if_neg (by omega),if_pos i,if_pos g]
  rw [d];have p:w.cell? ⟨tb,3,none⟩=some (.string (bs frm)):=h.cell 3;have k:=Lib.hid (nZ h 2 ([77,65,73,76,32,70,82,79,77,58,60]++frm++[62]) (by simp only [List.length_append,List.length_cons,List.length_nil];omega))
  have l:Hid (((⟨#[77,65,73,76,32,70,82,79,77,58,60]⟩:ByteArray)++bs frm)++(⟨#[62]⟩:ByteArray)=bs ([77,65,73,76,32,70,82,79,77,58,60]++frm++[62])):=Lib.hid (by
   rw [←cE ([77,65,73,76,32,70,82,79,77,58,60]++frm) [62],←cE [77,65,73,76,32,70,82,79,77,58,60] frm]
   rfl)
  have n:=aG frm;subst g;clear h d i;go_enter Tryz.func88,Tryz.ntmps88;go_wp2_with fail
  rw [l.out];refine k.out.mono ?_;rintro e o ⟨rfl,f⟩;have j:=Lib.hid f;clear f;go_wp2_with fail
  go_ret;exact ⟨rfl,j.out⟩
 ·have d:t.hear b frm c a=t.quit:=by unfold aQ.hear;rw [if_neg (by omega),if_pos i,if_neg g]
  rw [d];have m:((a:Int) == 2)=false:=by rw [beq_eq_false_iff_ne];omega
  have k:=Lib.hid (fD h);clear h d i g;go_enter Tryz.func88,Tryz.ntmps88;go_wp2_with fail
  refine k.out.mono ?_;rintro e o ⟨rfl,f⟩;have j:=Lib.hid f;clear f;go_wp2_with fail
  go_ret;exact ⟨rfl,j.out⟩
theorem ui (h:bR w tb ch pp pb va vu vl frm body cap false t) (b c:List UInt8) (o:∀x∈t.una,x.2.length≤1000) (m:t.una.length≤1000) (q:t.wil.length≤1000) (g:t.came.length+t.una.length≤cap) (j:t.said=2) (a:Nat):
  Calls Tryz.prog 89 #[.pointer (some ⟨tb,0,none⟩),.int .i64 (a:Int)] w (fQ tb ch pp pb va vl frm body cap w (t.hear b frm c a)):=by
 by_cases i:a=2
 ·have d:t.hear b frm c a=t.ask:=by unfold aQ.hear;rw [if_neg (by omega),if_neg (by omega),if_pos j,if_pos i]
  rw [d];have l:=Lib.hid (pw h o m q);subst i;clear h d j o;go_enter Tryz.func89,Tryz.ntmps89;go_wp2_with fail
  refine l.out.mono ?_;rintro e y ⟨rfl,f⟩;have k:=Lib.hid f;clear f;go_wp2_with fail
  go_ret;exact ⟨rfl,k.out⟩
 ·have C:((a:Int) == 2)=false:=by rw [beq_eq_false_iff_ne];omega
  by_cases n:a=5
  ·have d:t.hear b frm c a=(t.leave t.una false).quit:=by unfold aQ.hear;rw [if_neg (by omega),if_neg (by omega),if_pos j,if_neg i,if_pos n]
   rw [d];obtain ⟨A,B,p⟩:=aE h.una;have D:w.cell? ⟨tb,7,none⟩=some (.slice A t.una.length B):=by rw [←p];exact h.cell 7
   have r:=Lib.hid (pL h vu t.una h.una (fun e=>(h.at_ ch (h.ua ch e)).2.1 rfl) m g);rw [p] at r;subst n;clear h d j o i p;go_enter Tryz.func89,Tryz.ntmps89;go_wp2_with fail
   refine r.out.mono ?_;rintro e y ⟨rfl,u,s⟩;have l:=Lib.hid (fD u);have z:=Lib.hid s;clear u s;go_wp2_with fail
   refine l.out.mono ?_;intro e E f;have k:=Lib.hid (fQ.after z.out f);obtain ⟨rfl,_⟩:=f;go_wp2_with fail
   go_ret;exact k.out
  ·have d:t.hear b frm c a=t.quit:=by unfold aQ.hear;rw [if_neg (by omega),if_neg (by omega),if_pos j,if_neg i,if_neg n]
   rw [d];have v:((a:Int) == 5)=false:=by rw [beq_eq_false_iff_ne];omega
   have l:=Lib.hid (fD h);clear h d j i n o;go_enter Tryz.func89,Tryz.ntmps89;go_wp2_with fail
   refine l.out.mono ?_;rintro e y ⟨rfl,f⟩;have k:=Lib.hid f;clear f;go_wp2_with fail
   go_ret;exact ⟨rfl,k.out⟩
end
section
variable {w w':World} {tb ch pp pb:Nat} {va vu vl:Value} {frm body:List UInt8} {cap:Nat} {t:aQ}
theorem JB (h:bg w vu t.una.length 2 (aR t.una)) {r:Nat×List UInt8} {u:List (Nat×List UInt8)} (n:t.una=r::u):∃b a e c,vu= .slice (some ⟨b,a,none⟩) (u.length+1) (c+1)∧u.length≤c∧((c=0∧e=a)∨∃l,c=l+1∧e=a+2)∧bg w (.slice (some ⟨b,a,none⟩) 1 (c+1)) 1 2 (aR [r])∧bg w (.slice (some ⟨b,e,none⟩) u.length c) u.length 2 (aR u):=by
 rw [n] at h;obtain ⟨q,⟨o,_⟩ | ⟨b,a,c,f,d,g⟩⟩:=h
 ·simp at o
 ·obtain ⟨c,rfl⟩:∃m,c=m+1:=⟨c - 1,by simp at d;omega⟩
  have d:u.length≤c:=by simpa using d
  have k:bg w (.slice (some ⟨b,a,none⟩) 1 (c+1)) 1 2 (aR [r]):=⟨rfl,.inr ⟨b,a,c+1,rfl,by omega,fun j p=>by
   rw [g j (by simp only [List.length_cons];omega)];obtain rfl | rfl:j=0∨j=1:=by omega
   ·rfl
   ·rfl⟩⟩
  cases c with
  | zero=>
   have i:u=[]:=List.eq_nil_of_length_eq_zero (by omega);exact ⟨b,a,a,0,f,d,.inl ⟨rfl,rfl⟩,k,⟨by rw [kc],.inl ⟨by rw [i];rfl,_,_,by rw [i];rfl⟩⟩⟩
  | succ c=>
   refine ⟨b,a,a+2,c+1,f,d,.inr ⟨c,rfl,rfl⟩,k,⟨by rw [kc],.inr ⟨b,a+2,c+1,rfl,d,fun j p=>?_⟩⟩⟩
   rw [show a+2+j=a+(2+j) by omega,g (2+j) (by simp only [List.length_cons];omega)]
   show ([Value.int .i64 (r.1:Int),.string (bs r.2)]++aR u)[2+j]? =_;rw [List.getElem?_append_right (by simp)];simp
theorem bR.cut (h:bR w tb ch pp pb va vu vl frm body cap false t) {r:Nat×List UInt8} {u:List (Nat×List UInt8)} {b d a c:Nat} (i:t.una=r::u) (j:vu= .slice (some ⟨b,d,none⟩) (u.length+1) (c+1)) (l:bg w (.slice (some ⟨b,a,none⟩) u.length c) u.length 2 (aR u)):
  bR (w.setCell ⟨tb,7,none⟩ (.slice (some ⟨b,a,none⟩) u.length c)) tb ch pp pb va (.slice (some ⟨b,a,none⟩) u.length c) vl frm body cap false {t with una:=t.una.drop 1}∧aH (lA tb ch va vl) w (w.setCell ⟨tb,7,none⟩ (.slice (some ⟨b,a,none⟩) u.length c)):=by
 have f:aL tb w (w.setCell ⟨tb,7,none⟩ (.slice (some ⟨b,a,none⟩) u.length c)):=(aL.refl _ _).setCell _;have g:t.una.drop 1=u:=by rw [i];rfl
 refine ⟨h.put (t':={t with una:=t.una.drop 1}) f (heap_setCell_same w tb 7 _ _ _ h.blk) rfl (by show bg w _ (t.una.drop 1).length 2 (aR (t.una.drop 1));rw [g];exact l) h.wil (fun k e=>h.ua k (by rw [j];exact e)) (fun k e=>⟨h.al k e,(h.lb e).1⟩),(aH.same f).mono (fun k _ e=> .inl e)⟩
theorem bR.more (h:bR w tb ch pp pb va vu vl frm body cap false t) {r:Nat×List UInt8} {b d c:Nat} (I:bg w (.slice (some ⟨b,d,none⟩) 1 c) 1 2 (aR [r])) (W:t.wil.length≤1000):
  ∃g m f,(Builtin.append_ #[102,102] 102 #[vl,.slice (some ⟨b,d,none⟩) 1 c]).run Tryz.prog w= .ok (.slice (some ⟨g,0,none⟩) (t.wil.length+1) m) f∧f.cell? ⟨tb,8,none⟩=some vl∧f.frozen? ⟨tb,8,none⟩=false∧
   bR (f.setCell ⟨tb,8,none⟩ (.slice (some ⟨g,0,none⟩) (t.wil.length+1) m)) tb ch pp pb va vu (.slice (some ⟨g,0,none⟩) (t.wil.length+1) m) frm body cap false {t with wil:=t.wil++[r]}∧aH (lA tb ch va vl) w (f.setCell ⟨tb,8,none⟩ (.slice (some ⟨g,0,none⟩) (t.wil.length+1) m))∧(vl.ownBlock=some g∨w.heap.size≤g):=by
 obtain ⟨i,K,A,B,C⟩:=info_parts lR;obtain ⟨L,⟨U,_⟩ | ⟨S,G,T,a,_,J⟩⟩:=I
 ·omega
 injection a with a _ _;injection a with a;injection a with l e3;subst l e3
 obtain ⟨g,m,f,M,N,F⟩:=gC (P:=Tryz.prog) w 102 102 0 162 i _ 2 24 Tryz.underlying102 K A B C rfl (by decide) vl t.wil.length (aR t.wil) h.wil ⟨b,d,none⟩ 1 c (aR [r]) rfl (fun j x o=>by
  have V:j < 2:=by
   rcases Nat.lt_or_ge j 2 with v | v
   ·exact v
   ·rw [List.getElem?_eq_none (by simpa [aR] using v)] at o;cases o
  have u:(⟨b,d,none⟩:Addr).add j=⟨b,d+j,none⟩:=by unfold Addr.add;split <;> simp_all
  rw [u,J j (by omega),o]) (by intro x o;simp [aR] at o;rcases o with rfl | rfl <;> rfl) (by decide) (by unfold maxLen;omega) (by omega) (Nat.zero_le _)
 have p:aH (fun k=>vl.ownBlock=some k) w f:=by
  rcases F with ⟨a,y⟩ | ⟨_,y⟩
  ·exact (aH.grown y).mono fun k _ e=>a.trans e
  ·exact (aH.grown y).mono fun k _ e=>by cases e
 have D:vl.ownBlock=some g∨w.heap.size≤g:=by
  rcases F with ⟨a,_⟩ | ⟨a,_⟩
  ·exact .inl a
  ·exact .inr (by rw [a];exact Nat.le_refl _)
 have O:¬vl.ownBlock=some tb:=fun e=>(h.lb e).1 rfl;have Q:¬vl.ownBlock=some ch:=fun e=>(h.lb e).2.1 rfl;have n:=p.some_ h.blk O;have q:aL tb f (f.setCell ⟨tb,8,none⟩ (.slice (some ⟨g,0,none⟩) (t.wil.length+1) m)):=(aL.refl _ _).setCell _
 have E:va.ownBlock≠some g∧g≠tb:=by
  rcases D with e | e
  ·exact ⟨h.al g e,(h.lb e).1⟩
  ·exact ⟨fun l=>by have:=(h.at_ g l).2.2;omega,fun l=>by have:=ah h.blk;omega⟩
 have H:aR (t.wil++[r])=aR t.wil++aR [r]:=by unfold aR;rw [List.flatMap_append]
 obtain ⟨s,R,z⟩:=h.chan;refine ⟨g,m,f,M,by rw [Lib.cell_of_heap n];rfl,Lib.frozen_of_heap n 8,⟨heap_setCell_same f tb 8 _ _ _ n,⟨s,R,aP q (p.some_ z Q) (Ne.symm h.tc)⟩,?_,?_,h.ua,fun k e=>?_,fun k e=>⟨(h.at_ k e).1,(h.at_ k e).2.1,Nat.lt_of_lt_of_le (h.at_ k e).2.2 (Nat.le_trans p.size (aH.same q).size)⟩⟩,?_,D⟩
 ·exact (h.una.chg p (fun g e l=>h.al g l (h.ua g e))).chg (aH.same q) (fun g e l=>(h.at_ g (h.ua g e)).1 l)
 ·show World.ownsRow _ 0 162 2 _ (t.wil++[r]).length (aR (t.wil++[r]));rw [H,List.length_append];refine bC N (aH.same q) (fun k e l=>E.2 ?_);have e:g=k:=by simpa [Value.ownBlock] using e
  exact e.trans l
 ·have e:g=k:=by simpa [Value.ownBlock] using e
  rw [←e];exact E.1
 ·exact (p.mono (fun k _ e=> .inr (.inr (.inr e)))).trans (aH.same q) (fun k _ e=> .inl e)
end
section
variable {w w':World} {tb ch pp pb:Nat} {va vu vl:Value} {frm body:List UInt8} {cap:Nat} {t:aQ}
theorem fQ.later {x:aQ×List UInt8} {g:World} {e:Ending} {a:Value} (_:∀k,lA tb ch va vl k→k < w.heap.size) (d:aH (lA tb ch va vl) w g) (f:∀k,a.ownBlock=some k→vl.ownBlock=some k∨w.heap.size≤k) (h:fQ tb ch pp pb va a frm body cap g x e w'):fQ tb ch pp pb va vl frm body cap w x e w':=by
 obtain ⟨i,c,b,j,l,m⟩:=h;refine ⟨i,c,b,j,d.trans l (fun k n e=>?_),fun k e=>(m k e).elim (f k) (fun e=> .inr (Nat.le_trans d.size e))⟩
 rcases e with e | e | e | e
 ·exact .inl e
 ·exact .inr (.inl e)
 ·exact .inr (.inr (.inl e))
 ·exact (f k e).elim (fun e=> .inr (.inr (.inr e))) (fun e=>by omega)
theorem pP (h:bR w tb ch pp pb va vu vl frm body cap false t) (l m:List UInt8) (Y:∀x∈t.una,x.2.length≤1000) (S:t.una.length≤1000) (a2:t.wil.length≤999) (y:t.came.length+t.una.length≤cap) (M:t.said=3) (hu:t.una≠[]) (a:Nat):
  Calls Tryz.prog 90 #[.pointer (some ⟨tb,0,none⟩),.int .i64 (a:Int)] w (fQ tb ch pp pb va vl frm body cap w (t.hear l frm m a)):=by
 obtain ⟨r,u,E⟩:∃r u,t.una=r::u:=by
  cases e:t.una with
  | nil=>exact absurd e hu
  | cons r u=>exact ⟨r,u,rfl⟩
 obtain ⟨b,B,G,c,L,K,J,Z,ru⟩:=JB h.una E;obtain ⟨I,V⟩:=h.cut E L ru;have c7:w.cell? ⟨tb,7,none⟩=some (.slice (some ⟨b,B,none⟩) (u.length+1) (c+1)):=by rw [←L];exact h.cell 7
 have f7:=h.frozen 7;have ul:u.length+1≤1000:=by rw [E] at S;simpa using S
 have R:va.ownBlock=some b:=h.ua b (by rw [L];rfl);have a0:b≠tb:=(h.at_ b R).1;have q:bg (w.setCell ⟨tb,7,none⟩ (.slice (some ⟨b,G,none⟩) u.length c)) (.slice (some ⟨b,B,none⟩) 1 (c+1)) 1 2 (aR [r]):=Z.chg (aH.same ((aL.refl tb w).setCell _)) (fun g e e2=>a0 ((show b=g by simpa [Value.ownBlock] using e).trans e2));have p:∀x∈t.una.drop 1,x.2.length≤1000:=fun x hx=>Y x (List.mem_of_mem_drop hx);have A:(t.una.drop 1).length≤1000:=by rw [List.length_drop];omega
 have O:Hid (∀k,lA tb ch va vl k→k < w.heap.size):=Lib.hid (fun k e=>h.lt e);have j:=Lib.hid V;have i2:(1:Int)≤(u.length:Int)+1:=by omega
 obtain ⟨W1,v⟩:∃W1:World,w.setCell ⟨tb,7,none⟩ (.slice (some ⟨b,G,none⟩) u.length c)=W1:=⟨_,rfl⟩;rw [v] at I q j;have f:=Lib.hid v;have P:t.una.take 1=[r]:=by rw [E];rfl
 obtain ⟨T,H⟩:∃T,u.length=T:=⟨_,rfl⟩;have d8:w.cell? ⟨tb,8,none⟩=some vl:=h.cell 8;obtain ⟨al,cl,el⟩:=aE (aF h.wil)
 by_cases Q:a=2
 ·have D:t.hear l frm m a=({t with una:=t.una.drop 1,wil:=t.wil++[r]}:aQ).ask:=by unfold aQ.hear;rw [if_neg (by omega),if_neg (by omega),if_neg (by omega),if_pos M,if_pos Q,P]
  rw [D];obtain ⟨g,cp,W2,k1,k2,k3,F,C,G2⟩:=I.more q (by show t.wil.length≤1000;omega);have o:=Lib.hid (pw F p A (by show (t.wil++[r]).length≤1000;rw [List.length_append];simp only [List.length_cons,List.length_nil];omega));obtain ⟨X,z⟩:∃X,({t with una:=t.una.drop 1,wil:=t.wil++[r]}:aQ).ask=X:=⟨_,rfl⟩;rw [z] at o ⊢;have HR:=Lib.hid k1;have n:=Lib.hid (j.out.trans C (fun _ _ e=>e))
  have HG:Hid (∀k,(Value.slice (some ⟨g,0,none⟩) (t.wil.length+1) cp).ownBlock=some k→vl.ownBlock=some k∨w.heap.size≤k):=Lib.hid (fun k e=>by
   have e:g=k:=by simpa [Value.ownBlock] using e
   rw [←e]
   exact G2.imp id (fun e=>Nat.le_trans j.out.size e))
  rw [el] at d8 k2 HR;subst Q;clear h I Z q ru D M Y p E P F C k1 G2 V v L z;rw [H] at c7 f i2 K ul
  rcases J with ⟨rfl,rfl⟩ | ⟨c',rfl,rfl⟩
  ·obtain rfl:T=0:=by omega
   have d:=HR.out;rw [←f.out] at d;have d:=Lib.hid d;go_enter Tryz.func90,Tryz.ntmps90
   go_wp2_with (first
    | (at_builtin;refine bB rfl _ _ 102 rfl _ _ (.slice (some ⟨g,0,none⟩) (t.wil.length+1) cp) W2 rfl rfl d.out ?_)
    | fail)
   refine o.out.mono ?_;intro e U i;have s:=Lib.hid (fQ.later O.out n.out HG.out i);obtain ⟨rfl,_⟩:=i;go_wp2_with fail
   go_ret;exact ⟨rfl,s.out.2⟩
  ·have d:=HR.out;rw [←f.out] at d;have d:=Lib.hid d;go_enter Tryz.func90,Tryz.ntmps90
   go_wp2_with (first
    | (at_builtin;refine bB rfl _ _ 102 rfl _ _ (.slice (some ⟨g,0,none⟩) (t.wil.length+1) cp) W2 rfl rfl d.out ?_)
    | fail)
   refine o.out.mono ?_;intro e U i;have s:=Lib.hid (fQ.later O.out n.out HG.out i);obtain ⟨rfl,_⟩:=i;go_wp2_with fail
   go_ret;exact ⟨rfl,s.out.2⟩
 ·have a3:((a:Int) == 2)=false:=by rw [beq_eq_false_iff_ne];omega
  by_cases W:a=5
  ·have D:t.hear l frm m a=(({t with una:=t.una.drop 1}:aQ).leave [r] false).ask:=by unfold aQ.hear;rw [if_neg (by omega),if_neg (by omega),if_neg (by omega),if_pos M,if_neg Q,if_pos W,P]
   rw [D];have hv:(Value.slice (some ⟨b,B,none⟩) 1 (c+1)).ownBlock≠some ch:=fun e=>(h.at_ b R).2.1 (by simpa [Value.ownBlock] using e);have HF:=Lib.hid (pL I (.slice (some ⟨b,B,none⟩) 1 (c+1)) [r] q hv (by simp) (by show t.came.length+1≤cap;rw [E] at y;simp only [List.length_cons] at y;omega));have HZ:=Lib.hid p;obtain ⟨X,z⟩:∃X,(({t with una:=t.una.drop 1}:aQ).leave [r] false).ask=X:=⟨_,rfl⟩;rw [z];have N:=Lib.hid z;subst W;clear h I Z q ru D M Y p E P V v L hv el d8 z;rw [H] at c7 f i2 K ul
   rcases J with ⟨rfl,rfl⟩ | ⟨c',rfl,rfl⟩
   ·obtain rfl:T=0:=by omega
    go_enter Tryz.func90,Tryz.ntmps90;go_wp2_with fail
    rw [f.out];refine HF.out.mono ?_;rintro e w2 ⟨rfl,F,C⟩;have o:=Lib.hid (pw F HZ.out A (by show t.wil.length≤1000;omega));rw [N.out] at o;have n:=Lib.hid (j.out.trans C (fun _ _ e=>e));clear F C;go_wp2_with fail
    refine o.out.mono ?_;intro e U i;have s:=Lib.hid (fQ.after n.out i);obtain ⟨rfl,_⟩:=i;go_wp2_with fail
    go_ret;exact ⟨rfl,s.out.2⟩
   ·go_enter Tryz.func90,Tryz.ntmps90;go_wp2_with fail
    rw [f.out];refine HF.out.mono ?_;rintro e w2 ⟨rfl,F,C⟩;have o:=Lib.hid (pw F HZ.out A (by show t.wil.length≤1000;omega));rw [N.out] at o;have n:=Lib.hid (j.out.trans C (fun _ _ e=>e));clear F C;go_wp2_with fail
    refine o.out.mono ?_;intro e U i;have s:=Lib.hid (fQ.after n.out i);obtain ⟨rfl,_⟩:=i;go_wp2_with fail
    go_ret;exact ⟨rfl,s.out.2⟩
  ·have D:t.hear l frm m a=({t with una:=t.una.drop 1}:aQ).ask:=by unfold aQ.hear;rw [if_neg (by omega),if_neg (by omega),if_neg (by omega),if_pos M,if_neg Q,if_neg W]
   rw [D];have a1:((a:Int) == 5)=false:=by rw [beq_eq_false_iff_ne];omega
   have o:=Lib.hid (pw I p A (by show t.wil.length≤1000;omega));obtain ⟨X,z⟩:∃X,({t with una:=t.una.drop 1}:aQ).ask=X:=⟨_,rfl⟩;rw [z] at o ⊢;clear h I Z q ru D M Y p E P V v L el d8 Q W z;rw [H] at c7 f i2 K ul
   rcases J with ⟨rfl,rfl⟩ | ⟨c',rfl,rfl⟩
   ·obtain rfl:T=0:=by omega
    go_enter Tryz.func90,Tryz.ntmps90;go_wp2_with fail
    rw [f.out];refine o.out.mono ?_;intro e U i;have s:=Lib.hid (fQ.after j.out i);obtain ⟨rfl,_⟩:=i;go_wp2_with fail
    go_ret;exact ⟨rfl,s.out.2⟩
   ·go_enter Tryz.func90,Tryz.ntmps90;go_wp2_with fail
    rw [f.out];refine o.out.mono ?_;intro e U i;have s:=Lib.hid (fQ.after j.out i);obtain ⟨rfl,_⟩:=i;go_wp2_with fail
    go_ret;exact ⟨rfl,s.out.2⟩
theorem y9 (h:bR w tb ch pp pb va vu vl frm body cap false t) (c b:List UInt8) (s:t.wil.length≤1000) (i:t.came.length+t.wil.length≤cap) (k:t.said=4) (H:b.length≤10000000000000) (r:Calls Tryz.prog 130 #[.string (bs body)] w fun e w'=>e= .returned (.string (bs b))∧Below w.heap.size w w') (a:Nat):
  Calls Tryz.prog 91 #[.pointer (some ⟨tb,0,none⟩),.int .i64 (a:Int)] w (fQ tb ch pp pb va vl frm body cap w (t.hear c frm b a)):=by
 by_cases j:a=3
 ·have d:t.hear c frm b a=t.say 5 (b++yQ++[46]):=by unfold aQ.hear;rw [if_neg (by omega),if_neg (by omega),if_neg (by omega),if_neg (by omega),if_pos k,if_pos j]
  rw [d];have K:w.cell? ⟨tb,5,none⟩=some (.string (bs body)):=h.cell 5;have C:=Lib.hid r
  have v:Hid ((bs b++(⟨#[13,10]⟩:ByteArray))++(⟨#[46]⟩:ByteArray)=bs (b++yQ++[46])):=Lib.hid (by
   rw [←cE (b++yQ) [46],←cE b yQ]
   rfl)
  have n:(b++yQ++[46]).length≤100000000000000:=by simp only [yQ,List.length_append,List.length_cons,List.length_nil];omega
  obtain ⟨L,z⟩:∃L,b++yQ++[46]=L:=⟨_,rfl⟩;rw [z] at v n ⊢;have I:=aG b;have D:=Lib.hid h;subst j;clear h d k r z;go_enter Tryz.func91,Tryz.ntmps91;go_wp2_with fail
  refine C.out.mono ?_;rintro e u ⟨rfl,g⟩;have m:=Lib.hid (nZ (D.out.below g) 5 L n);have p:=Lib.hid (aH.below g:aH (lA tb ch va vl) w u);clear g;go_wp2_with fail
  rw [v.out];refine m.out.mono ?_;intro e J f;have l:=Lib.hid (fQ.after p.out f);obtain ⟨rfl,_⟩:=f;go_wp2_with fail
  go_ret;exact ⟨rfl,l.out.2⟩
 ·have G:((a:Int) == 3)=false:=by rw [beq_eq_false_iff_ne];omega
  clear r
  by_cases o:a=5
  ·have d:t.hear c frm b a=(t.leave t.wil false).quit:=by unfold aQ.hear;rw [if_neg (by omega),if_neg (by omega),if_neg (by omega),if_neg (by omega),if_pos k,if_neg j,if_pos o]
   rw [d];obtain ⟨E,F,q⟩:=aE (aF h.wil);have M:w.cell? ⟨tb,8,none⟩=some (.slice E t.wil.length F):=by rw [←q];exact h.cell 8
   have x:=Lib.hid (pL h vl t.wil (aF h.wil) (fun e=>(h.lb e).2.1 rfl) s i);rw [q] at x;subst o;clear h d k j;go_enter Tryz.func91,Tryz.ntmps91;go_wp2_with fail
   refine x.out.mono ?_;rintro e u ⟨rfl,A,y⟩;have m:=Lib.hid (fD A);have p:=Lib.hid y;clear A y;go_wp2_with fail
   refine m.out.mono ?_;intro e J f;have l:=Lib.hid (fQ.after p.out f);obtain ⟨rfl,_⟩:=f;go_wp2_with fail
   go_ret;rw [q];exact ⟨rfl,l.out.2⟩
  ·have d:t.hear c frm b a=t.quit:=by unfold aQ.hear;rw [if_neg (by omega),if_neg (by omega),if_neg (by omega),if_neg (by omega),if_pos k,if_neg j,if_neg o]
   rw [d];have B:((a:Int) == 5)=false:=by rw [beq_eq_false_iff_ne];omega
   have m:=Lib.hid (fD h);clear h d k j o;go_enter Tryz.func91,Tryz.ntmps91;go_wp2_with fail
   refine m.out.mono ?_;rintro e u ⟨rfl,f⟩;have l:=Lib.hid f;clear f;go_wp2_with fail
   go_ret;exact ⟨rfl,l.out⟩
theorem yZ (h:bR w tb ch pp pb va vu vl frm body cap false t) (b c:List UInt8) (p:t.wil.length≤1000) (d:t.came.length+t.wil.length≤cap) (v:t.said=5) (a:Nat):
  Calls Tryz.prog 92 #[.pointer (some ⟨tb,0,none⟩),.int .i64 (a:Int)] w (fQ tb ch pp pb va vl frm body cap w (t.hear b frm c a)):=by
 by_cases j:a=2
 ·have f:t.hear b frm c a=(t.leave t.wil true).quit:=by unfold aQ.hear;rw [if_neg (by omega),if_neg (by omega),if_neg (by omega),if_neg (by omega),if_neg (by omega),if_pos j]
  rw [f];obtain ⟨s,u,i⟩:=aE (aF h.wil);have z:w.cell? ⟨tb,8,none⟩=some (.slice s t.wil.length u):=by rw [←i];exact h.cell 8
  have k:=Lib.hid (JY h vl t.wil (aF h.wil) (fun e=>(h.lb e).2.1 rfl) p d);rw [i] at k;subst j;clear h f v;go_enter Tryz.func92,Tryz.ntmps92;go_wp2_with fail
  refine k.out.mono ?_;rintro e y ⟨rfl,o,n⟩;have m:=Lib.hid (fD o);have r:=Lib.hid n;clear o n;go_wp2_with fail
  refine m.out.mono ?_;intro e B g;have l:=Lib.hid (fQ.after r.out g);obtain ⟨rfl,_⟩:=g;go_wp2_with fail
  go_ret;rw [i];exact ⟨rfl,l.out.2⟩
 ·have A:((a:Int) == 2)=false:=by rw [beq_eq_false_iff_ne];omega
  by_cases q:a=5
  ·have f:t.hear b frm c a=(t.leave t.wil false).quit:=by unfold aQ.hear;rw [if_neg (by omega),if_neg (by omega),if_neg (by omega),if_neg (by omega),if_neg (by omega),if_neg j,if_pos q]
   rw [f];obtain ⟨s,u,i⟩:=aE (aF h.wil);have z:w.cell? ⟨tb,8,none⟩=some (.slice s t.wil.length u):=by rw [←i];exact h.cell 8
   have k:=Lib.hid (pL h vl t.wil (aF h.wil) (fun e=>(h.lb e).2.1 rfl) p d);rw [i] at k;subst q;clear h f v j;go_enter Tryz.func92,Tryz.ntmps92;go_wp2_with fail
   refine k.out.mono ?_;rintro e y ⟨rfl,o,n⟩;have m:=Lib.hid (fD o);have r:=Lib.hid n;clear o n;go_wp2_with fail
   refine m.out.mono ?_;intro e B g;have l:=Lib.hid (fQ.after r.out g);obtain ⟨rfl,_⟩:=g;go_wp2_with fail
   go_ret;rw [i];exact ⟨rfl,l.out.2⟩
  ·have f:t.hear b frm c a=t.quit:=by unfold aQ.hear;rw [if_neg (by omega),if_neg (by omega),if_neg (by omega),if_neg (by omega),if_neg (by omega),if_neg j,if_neg q]
   rw [f];have x:((a:Int) == 5)=false:=by rw [beq_eq_false_iff_ne];omega
   have m:=Lib.hid (fD h);clear h f v j q;go_enter Tryz.func92,Tryz.ntmps92;go_wp2_with fail
   refine m.out.mono ?_;rintro e y ⟨rfl,g⟩;have l:=Lib.hid g;clear g;go_wp2_with fail
   go_ret;exact ⟨rfl,l.out⟩
end
theorem pH:ji []=none:=rfl
theorem EM {l:List UInt8} {c:List UInt8×List UInt8} (h:ji l=some c) (n:Nat):ji (l.take (8+c.1.length+n))=some (c.1,c.2.take n):=by
 have m:=ku h;have j:=xA h;rw [pI] at h ⊢
 split at h
 ·cases h
 ·rename_i e
  simp only [not_or,Nat.not_lt,Classical.not_not] at e;injection h with h;have b:c.1=(l.drop 8).take (be (l.take 4)):=by rw [←h]
  have d:c.1.length=be (l.take 4):=by rw [b,List.length_take,List.length_drop];omega
  have k:(l.take (8+c.1.length+n)).take 4=l.take 4:=by rw [List.take_take];congr 1;omega
  have f:((l.take (8+c.1.length+n)).drop 4).take 4=(l.drop 4).take 4:=by
   rw [List.drop_take,List.take_take];congr 1;omega
  have g:((l.take (8+c.1.length+n)).drop 8).take c.1.length=(l.drop 8).take c.1.length:=by
   rw [List.drop_take,List.take_take];congr 1;omega
  have i:((l.take (8+c.1.length+n)).drop 8).drop c.1.length=c.2.take n:=by
   rw [List.drop_drop,j,List.drop_take];congr 1;omega
  rw [k,f,←d,g,i];have a:(l.drop 8).take c.1.length=c.1:=by rw [d,←b]
  rw [if_neg]
  ·rw [a]
  ·simp only [not_or,Nat.not_lt,Classical.not_not];refine ⟨by rw [List.length_take];omega,?_⟩
   rw [a,e.2,←b]
theorem ve:∀(f:Nat) (S:aa) (k:Nat) (l:List UInt8),k≤(dz f S k l).2
 | 0,S,k,l=>Nat.le_refl _
 | f+1,S,k,l=>by
  cases a:ji l with
  | none=>rw [gP a];exact Nat.le_refl _
  | some c=>
   cases b:S.takes c.1 with
   | none=>rw [jf a b];exact Nat.le_refl _
   | some S'=>rw [fP a b];have:=ve f S' (k+8+c.1.length) c.2;omega
theorem vm:∀(f:Nat) (S:aa) (k:Nat) (l:List UInt8) (a:Nat),(l.take ((dz f S k l).2 - k)).length < a→dz a S k (l.take ((dz f S k l).2 - k))=dz f S k l
 | 0,S,k,l,a,h=>by
  obtain ⟨a,rfl⟩:∃g,a=g+1:=⟨a - 1,by omega⟩
  show dz (a+1) S k (l.take (k - k))=(S,k);rw [Nat.sub_self,List.take_zero,gP pH]
 | f+1,S,k,l,a,h=>by
  obtain ⟨a,rfl⟩:∃g,a=g+1:=⟨a - 1,by omega⟩
  cases b:ji l with
  | none=>
   rw [gP b];show dz (a+1) S k (l.take (k - k))=(S,k);rw [Nat.sub_self,List.take_zero,gP pH]
  | some c=>
   cases e:S.takes c.1 with
   | none=>
    rw [jf b e];show dz (a+1) S k (l.take (k - k))=(S,k);rw [Nat.sub_self,List.take_zero,gP pH]
   | some S'=>
    rw [fP b e] at h ⊢;have d:=ve f S' (k+8+c.1.length) c.2;have n:=ku b;obtain ⟨R,m⟩:∃R,dz f S' (k+8+c.1.length) c.2=R:=⟨_,rfl⟩;have i:=vm f S' (k+8+c.1.length) c.2 a;rw [m] at h d i ⊢;have j:R.2 - k=8+c.1.length+(R.2 - (k+8+c.1.length)):=by omega
    rw [j] at h ⊢;rw [fP (EM b _) e];refine i ?_;rw [List.length_take] at h ⊢;omega
theorem Dv (l:List UInt8):bw (l.take (bw l).2)=bw l:=by
 have h:=vm (l.length+1) ⟨[],0⟩ 0 l ((l.take (bw l).2).length+1) (by
  show (l.take ((bw l).2 - 0)).length < _
  rw [Nat.sub_zero];omega)
 rw [Nat.sub_zero] at h;exact h
end Go.Proofs.YtofpegbpgkkgkaaGreatDoor
