import Derived.Test.YtofpegbpgkkgkaaGreatDoorS01
import Derived.Laws.CopyRow
namespace Go.Proofs.YtofpegbpgkkgkaaGreatDoor
set_option maxHeartbeats 8000000
set_option maxRecDepth 1000000
open Go.RowKit
structure aX where
 id:Nat
 time:Nat
 frm:List UInt8
 tos:List (List UInt8)
 body:List UInt8
def eE (l:List (List UInt8)):List UInt8:=l.flatMap jC
theorem BT (l:List (List UInt8)) (k:Nat) (h:k < l.length):eE (l.take (k+1))=eE (l.take k)++jC l[k]:=by
 unfold eE;rw [List.take_succ_eq_append_getElem h,List.flatMap_append];simp
theorem yi (l:List UInt8):(jC l).length=1+l.length:=by rw [jC,List.length_append,bf]
def cA (m:aX):List UInt8:=77::(az 4 m.id++(az 4 m.time++(jC m.frm++(az 1 m.tos.length++(eE m.tos++(az 2 m.body.length++m.body))))))
def aY (m:aX) (v:Value):Array Value:=#[.int .i64 m.id,.int .i64 m.time,.string (bs m.frm),v,.string (bs m.body)]
def dQ (m:aX):Prop:=m.id≤4294967295∧m.time≤4294967295∧m.frm.length≤255∧m.tos.length≤255∧(∀t∈m.tos,t.length≤255)∧m.body.length≤1048576
def aB (l:List (List UInt8)):List Value:=l.map fun t=>Value.string (bs t)
structure fH where
 m:aX
 out:List Bool
structure aa where
 items:List fH
 time:Nat
def EE (l:List Bool):List Value:=l.map Value.bool
def Cd (base:Nat) (w:World) (x:fH×Value×Nat):Prop:=
 w.ownsRow base 9 1 x.2.1 x.1.m.tos.length (aB x.1.m.tos)∧base≤x.2.2∧w.heap[x.2.2]? =some (.cells (EE x.1.out).toArray 4 (0,0))∧x.1.out.length=x.1.m.tos.length∧1≤x.1.m.tos.length∧dQ x.1.m
theorem dG {ts:List TypeId} {w f:World} {a d n:Nat} {e:TypeId} {v:Value} {i:List Value} (p:cJ ts w f) (o:e ∉ ts) (h:w.ownsRow a e d v n i):f.ownsRow a e d v n i:=by
 refine ⟨h.1,?_⟩
 rcases h.2 with h | ⟨g,b,c,j,k,l,m⟩
 ·exact .inl h
 ·exact .inr ⟨g,b,c,j,k,p.cells l o,m⟩
theorem Cd.touch {b:List TypeId} {w d:World} {a:Nat} {x:fH×Value×Nat} (c:cJ b w d) (e:9 ∉ b) (f:4 ∉ b) (h:Cd a w x):Cd a d x:=
 ⟨dG c e h.1,h.2.1,c.cells h.2.2.1 f,h.2.2.2⟩
theorem sZ {w:World} {b:Nat} {o:Obj} (h:w.heap[b]? =some o):b < w.heap.size:=by
 rcases Nat.lt_or_ge b w.heap.size with a | a
 ·exact a
 ·rw [Array.getElem?_eq_none a] at h;cases h
def zq (out:List Bool) (l:List Nat) (i:Nat):Bool:=decide (l.getD i 0 < out.length) && !(out.getD (l.getD i 0) false) && (decide (i=0) || decide (l.getD (i - 1) 0 < l.getD i 0))
def xZ (S:aa) (id:Nat) (l:List Nat):Bool:=decide (1≤id) && decide (id≤S.items.length) && decide (1≤l.length) && (List.range l.length).all (zq ((S.items.map (·.out)).getD (id - 1) []) l)
theorem aL.drew {b:Nat} {w a:World} (h:aL b w a):aL b w a.drew:=⟨h.1,h.2,h.3.trans ⟨rfl,rfl,rfl⟩⟩
theorem cJ.drew {a:List TypeId} {w b:World} (h:cJ a w b):cJ a w b.drew:=⟨h.1,h.2,h.3.trans ⟨rfl,rfl,rfl⟩⟩
theorem DQ {w:World} {a b:Nat} {A B:Array Value} {t u:TypeId} {y z:Nat×Nat} (d:w.heap[a]? =some (.cells A t y)) (c:w.heap[b]? =some (.cells B u z)) (h:t≠u):a≠b:=by
 intro e;subst e;rw [d] at c;injection c with c;injection c with _ c _;exact h c
def jV (o:List Bool) (l:List Nat):List Bool:=l.foldl (fun o x=>o.set x true) o
theorem uS (o:List Bool) (l:List Nat):(jV o l).length=o.length:=by
 induction l generalizing o with
 | nil=>rfl
 | cons x l ih=>show (jV (o.set x true) l).length=_;rw [ih,List.length_set]
def aa.outs (S:aa) (K:Nat) (ps:List Nat):aa:=⟨S.items.modify K (fun x=>⟨x.m,jV x.out ps⟩),S.time⟩
def Jq:List UInt8:=[78,111,116,32,100,101,108,105,118,101,114,101,100,58]
def Ai (tos:List (List UInt8)) (ps:List Nat):List UInt8:=Jq++ps.flatMap fun x=>13::10::tos.getD x []
def aa.failed (S:aa) (m:aX) (ps:List Nat) (time:Nat):aa:=
 if m.frm=[] then ⟨S.items,time⟩ else ⟨S.items++[⟨⟨S.items.length+1,time,[],[m.frm],Ai m.tos ps⟩,[false]⟩],time⟩
def zL (l:List UInt8):List UInt8×List UInt8:=((l.drop 1).take (be (l.take 1)),(l.drop 1).drop (be (l.take 1)))
def sK:Nat→List UInt8→List (List UInt8)×List UInt8
 | 0,l=>([],l)
 | n+1,l=>((zL l).1::(sK n (zL l).2).1,(sK n (zL l).2).2)
theorem we:∀(n:Nat) (l:List UInt8),(sK n l).1.length=n
 | 0,_=>rfl
 | n+1,l=>by rw [sK,List.length_cons,we n]
theorem IP (l:List UInt8):(zL l).1.length < 256:=by
 have h:=sP l;unfold zL;rw [List.length_take];omega
theorem Eu:∀(n:Nat) (l:List UInt8),∀t∈(sK n l).1,t.length < 256
 | 0,_,t,h=>by cases h
 | n+1,l,t,h=>by
  rw [sK] at h
  rcases List.mem_cons.1 h with rfl | h
  ·exact IP l
  ·exact Eu n _ t h
def iL (l:List UInt8):aX:=
 ⟨be (l.take 4),be ((l.drop 4).take 4),(zL (l.drop 8)).1,(sK (be ((zL (l.drop 8)).2.take 1)) ((zL (l.drop 8)).2.drop 1)).1,
  ((sK (be ((zL (l.drop 8)).2.take 1)) ((zL (l.drop 8)).2.drop 1)).2.drop 2).take (be ((sK (be ((zL (l.drop 8)).2.take 1)) ((zL (l.drop 8)).2.drop 1)).2.take 2))⟩
def fZ (k:Nat) (l:List UInt8):Option (Nat×List UInt8):=if k≤l.length then some (be (l.take k),l.drop k) else none
def bm (k:Nat) (l:List UInt8):Option (List UInt8×List UInt8):=if k≤l.length then some (l.take k,l.drop k) else none
def wm (k:Nat) (l:List UInt8):Option (List UInt8×List UInt8):=(fZ k l).bind fun a=>bm a.1 a.2
def xp:Nat→List UInt8→Option (List (List UInt8)×List UInt8)
 | 0,l=>some ([],l)
 | n+1,l=>(wm 1 l).bind fun a=>(xp n a.2).bind fun r=>some (a.1::r.1,r.2)
def oB:Nat→List UInt8→Option (List Nat×List UInt8)
 | 0,l=>some ([],l)
 | n+1,l=>(fZ 1 l).bind fun a=>(oB n a.2).bind fun r=>some (a.1::r.1,r.2)
def nk (l:List UInt8):Option aX:=
 (fZ 4 l).bind fun a=>(fZ 4 a.2).bind fun b=>(wm 1 b.2).bind fun f=>(fZ 1 f.2).bind fun n=>(xp n.1 n.2).bind fun t=>(wm 2 t.2).bind fun d=>if d.2=[] then some ⟨a.1,b.1,f.1,t.1,d.1⟩ else none
def rI (l:List UInt8):Option (Nat×List Nat):=
 (fZ 4 l).bind fun a=>(fZ 1 a.2).bind fun n=>(oB n.1 n.2).bind fun t=>if t.2=[] then some (a.1,t.1) else none
theorem sb {α β:Type} (a:α) (f:α→Option β):(some a).bind f=f a:=rfl
theorem jx {k n:Nat} (r:List UInt8) (h:n < 256 ^ k):fZ k (az k n++r)=some (n,r):=by
 have a:=bf k n;unfold fZ;rw [if_pos (by rw [List.length_append];omega),List.take_append_of_le_length (by omega),List.drop_append_of_le_length (by omega),List.take_of_length_le (by omega),List.drop_eq_nil_of_le (by omega),lI,Nat.mod_eq_of_lt h];rfl
theorem Cn (a r:List UInt8):bm a.length (a++r)=some (a,r):=by
 unfold bm;rw [if_pos (by simp)];simp
theorem zE {k:Nat} (a r:List UInt8) (h:a.length < 256 ^ k):wm k (az k a.length++(a++r))=some (a,r):=by
 unfold wm;rw [jx _ h];exact Cn a r
theorem BX:∀(a:List (List UInt8)) (r:List UInt8),(∀t∈a,t.length < 256)→xp a.length (eE a++r)=some (a,r)
 | [],r,_=>rfl
 | t::a,r,h=>by
  have b:t.length < 256 ^ 1:=h t (by simp);show xp (a.length+1) ((jC t++eE a)++r)=_;rw [xp,jC,List.append_assoc,List.append_assoc,zE t _ b];show (xp a.length (eE a++r)).bind _=_;rw [BX a r (fun x c=>h x (by simp [c]))];rfl
theorem xY:∀(a:List Nat) (r:List UInt8),(∀x∈a,x < 256)→oB a.length (fB a++r)=some (a,r)
 | [],r,_=>rfl
 | x::a,r,h=>by
  have b:x < 256 ^ 1:=h x (by simp);show oB (a.length+1) ((az 1 x++fB a)++r)=_;rw [oB,List.append_assoc,jx _ b];show (oB a.length (fB a++r)).bind _=_;rw [xY a r (fun y c=>h y (by simp [c]))];rfl
def tu (m:aX):Prop:=m.id < 256 ^ 4∧m.time < 256 ^ 4∧m.frm.length < 256∧m.tos.length < 256∧(∀t∈m.tos,t.length < 256)∧m.body.length < 256 ^ 2
theorem xV {m:aX} (h:tu m) {l:List UInt8} (a:cA m=77::l):nk l=some m:=by
 obtain ⟨b,c,d,e,f,g⟩:=h;unfold cA at a;injection a with _ a;subst a;unfold nk;rw [jx _ b];simp only [sb];rw [jx _ c];simp only [sb];rw [jC,List.append_assoc,zE m.frm _ d];simp only [sb];rw [jx _ (show m.tos.length < 256 ^ 1 from e)];simp only [sb];rw [BX m.tos _ f];simp only [sb];have:=zE (k:=2) m.body [] g;rw [List.append_nil] at this;rw [this];rfl
theorem xS {b:Nat} {a:List Nat} (c:b < 256 ^ 4) (d:a.length < 256) (e:∀x∈a,x < 256):rI (aM b a)=some (b,a):=by
 unfold rI aM;rw [jx _ c];simp only [sb];rw [jx _ (show a.length < 256 ^ 1 from d)];simp only [sb];have:=xY a [] e;rw [List.append_nil] at this;rw [this];rfl
theorem kC {k n:Nat} {l r:List UInt8} (h:fZ k l=some (n,r)):l=az k n++r∧n=be (l.take k)∧r=l.drop k∧n < 256 ^ k:=by
 unfold fZ at h
 split at h
 ·rename_i c
  injection h with h;injection h with h1 h2;have a:(l.take k).length=k:=by rw [List.length_take];omega
  have e:=tP (l.take k);have b:=Ad (l.take k);rw [a] at e b;subst h1 h2;exact ⟨by rw [e,List.take_append_drop],rfl,rfl,b⟩
 ·cases h
theorem jH {k:Nat} {l a r:List UInt8} (h:bm k l=some (a,r)):l=a++r∧a=l.take k∧r=l.drop k∧a.length=k:=by
 unfold bm at h
 split at h
 ·rename_i b
  injection h with h;injection h with h1 h2;subst h1 h2;exact ⟨by rw [List.take_append_drop],rfl,rfl,by rw [List.length_take];omega⟩
 ·cases h
theorem cC {α β:Type} {o:Option α} {f:α→Option β} {b:β} (h:o.bind f=some b):∃a,o=some a∧f a=some b:=by
 cases o with
 | none=>cases h
 | some a=>exact ⟨a,rfl,h⟩
theorem ti {k:Nat} {l a r:List UInt8} (h:wm k l=some (a,r)):l=az k a.length++(a++r)∧a=(l.drop k).take (be (l.take k))∧r=(l.drop k).drop (be (l.take k))∧a.length < 256 ^ k:=by
 obtain ⟨⟨n,p⟩,m,o⟩:=cC h;obtain ⟨i,c,d,j⟩:=kC m;obtain ⟨e,f,g,b⟩:=jH o;simp only at e f g b;refine ⟨by rw [b,←e];exact i,?_,?_,by rw [b];exact j⟩
 ·rw [←d,←c];exact f
 ·rw [←d,←c];exact g
theorem BV:∀{n:Nat} {l:List UInt8} {b:List (List UInt8)} {r:List UInt8},xp n l=some (b,r)→l=eE b++r∧sK n l=(b,r)
 | 0,l,b,r,h=>by
  injection h with h;injection h with c d;subst c d;exact ⟨rfl,rfl⟩
 | n+1,l,b,r,h=>by
  obtain ⟨⟨a,q⟩,c,d⟩:=cC h;obtain ⟨⟨f,s⟩,o,e⟩:=cC d;injection e with e;injection e with h5 h6;subst h5 h6;obtain ⟨j,k,m,_⟩:=ti c;obtain ⟨g,i⟩:=BV o;simp only at g i;have p:zL l=(a,q):=by unfold zL;rw [←k,←m]
  refine ⟨?_,by rw [sK,p,i]⟩
  show l=(jC a++eE f)++s;rw [jC,List.append_assoc,List.append_assoc,←g];exact j
theorem Fo {l:List UInt8} {m:aX} (h:nk l=some m):cA m=77::l∧iL l=m:=by
 obtain ⟨⟨M,N⟩,B,h⟩:=cC h;obtain ⟨⟨z,y⟩,C,h⟩:=cC h;obtain ⟨⟨d,K⟩,D,h⟩:=cC h;obtain ⟨⟨n,L⟩,E,h⟩:=cC h;obtain ⟨⟨f,O⟩,F,h⟩:=cC h;obtain ⟨⟨p,P⟩,G,h⟩:=cC h;obtain ⟨g,i,a,_⟩:=kC B;obtain ⟨j,k,o,_⟩:=kC C;obtain ⟨q,r,s,_⟩:=ti D;obtain ⟨t,u,v,_⟩:=kC E;obtain ⟨w,b⟩:=BV F;obtain ⟨c,x,A,_⟩:=ti G;simp only at g i a j k o q r s t u v w b c x A h
 split at h
 ·rename_i e
  injection h with h;subst h e;have H:n=f.length:=by have:=we n L;rw [b] at this;exact this.symm
  rw [List.append_nil] at c;have I:l.drop 8=y:=by rw [o,a,List.drop_drop]
  have J:zL y=(d,K):=by unfold zL;rw [←r,←s]
  refine ⟨?_,?_⟩
  ·unfold cA;simp only;rw [g,j,q,t,w,c,←H];simp only [jC,List.append_assoc]
  ·unfold iL;rw [I,J];simp only;rw [←u,←v,b];simp only;rw [←i,←a,←k,←x]
 ·cases h
theorem xX:∀{n:Nat} {l:List UInt8} {b:List Nat} {r:List UInt8},oB n l=some (b,r)→l=fB b++r∧b=lg n l∧b.length=n
 | 0,l,b,r,h=>by
  injection h with h;injection h with c d;subst c d;exact ⟨rfl,rfl,rfl⟩
 | n+1,l,b,r,h=>by
  obtain ⟨⟨a,t⟩,c,d⟩:=cC h;obtain ⟨⟨f,s⟩,q,e⟩:=cC d;injection e with e;injection e with h5 h6;subst h5 h6;obtain ⟨g,j,k,_⟩:=kC c;obtain ⟨m,o,p⟩:=xX q;simp only at g j k m o p;refine ⟨?_,?_,by rw [List.length_cons,p]⟩
  ·show l=(az 1 a++fB f)++s;rw [List.append_assoc,←m];exact g
  ·rw [o,j,k];simp only [lg,List.range_succ_eq_map,List.map_cons,List.map_map,List.drop_zero]
   congr 1
   apply List.map_congr_left;intro i _;simp
theorem Fm {l:List UInt8} {i:Nat} {c:List Nat} (h:rI l=some (i,c)):l=aM i c∧i=be (l.take 4)∧c=lg (be ((l.drop 4).take 1)) (l.drop 5)∧c.length=be ((l.drop 4).take 1):=by
 obtain ⟨⟨a,w⟩,q,h⟩:=cC h;obtain ⟨⟨n,v⟩,r,h⟩:=cC h;obtain ⟨⟨t,x⟩,s,h⟩:=cC h;obtain ⟨j,k,b,_⟩:=kC q;obtain ⟨m,d,o,_⟩:=kC r;obtain ⟨e,p,f⟩:=xX s;simp only at j k b m d o e p f h
 split at h
 ·rename_i g
  injection h with h;injection h with h4 h5;subst h4 h5 g;rw [List.append_nil] at e;have u:l.drop 5=v:=by rw [o,b,List.drop_drop]
  refine ⟨?_,k,?_,?_⟩
  ·unfold aM;rw [f,←e,←m];exact j
  ·rw [←b,←d,u];exact p
  ·rw [←b,←d];exact f
 ·cases h
theorem Da (l:List UInt8):tu (iL l):=by
 have a:∀x:List UInt8,be (x.take 4) < 256 ^ 4:=fun x=>by
  have:=sQ (l:=x.take 4) (by rw [List.length_take];omega);have d:256 ^ 4=4294967296:=by decide
  omega
 refine ⟨a _,a _,IP _,?_,Eu _ _,?_⟩
 ·unfold iL;simp only;rw [we];exact sP _
 ·unfold iL;simp only;rw [List.length_take]
  generalize (sK (be ((zL (l.drop 8)).2.take 1)) ((zL (l.drop 8)).2.drop 1)).2=x
  have b:=Ad (x.take 2);have c:256 ^ (x.take 2).length≤256 ^ 2:=Nat.pow_le_pow_right (by decide) (by rw [List.length_take];omega);omega
theorem Fp (l:List UInt8):nk l=if cA (iL l)=77::l then some (iL l) else none:=by
 by_cases h:cA (iL l)=77::l
 ·rw [if_pos h];exact xV (Da l) h
 ·rw [if_neg h]
  cases e:nk l with
  | none=>rfl
  | some m=>
   obtain ⟨a,b⟩:=Fo e;subst b;exact absurd a h
theorem Fy (n:Nat) (l:List UInt8):∀x∈lg n l,x < 256:=by
 intro x a;obtain ⟨i,_,rfl⟩:=List.mem_map.1 a;exact sP _
theorem xT (l:List UInt8):rI l=if aM (be (l.take 4)) (lg (be ((l.drop 4).take 1)) (l.drop 5))=l then some (be (l.take 4),lg (be ((l.drop 4).take 1)) (l.drop 5)) else none:=by
 by_cases h:aM (be (l.take 4)) (lg (be ((l.drop 4).take 1)) (l.drop 5))=l
 ·rw [if_pos h]
  have d:be (l.take 4) < 256 ^ 4:=by
   have:=sQ (l:=l.take 4) (by rw [List.length_take];omega);have a:256 ^ 4=4294967296:=by decide
   omega
  have:=xS d (by rw [Dn];exact sP _) (Fy (be ((l.drop 4).take 1)) (l.drop 5));rw [h] at this;exact this
 ·rw [if_neg h]
  cases e:rI l with
  | none=>rfl
  | some x=>
   obtain ⟨f,g⟩:=x;obtain ⟨b,c,a,_⟩:=Fm e;rw [←c,←a] at h;exact absurd b.symm h
structure sc (p:Nat) (w w':World):Prop where
 size:w.heap.size≤w'.heap.size
 block:∀k,k < w.heap.size→k≠p→w'.heap[k]? =w.heap[k]?
 still:dU w w'
theorem sc.refl (p:Nat) (w:World):sc p w w:=⟨Nat.le_refl _,fun _ _ _=>rfl,dU.refl w⟩
theorem sc.trans {p:Nat} {a b c:World} (h:sc p a b) (d:sc p b c):sc p a c:=⟨Nat.le_trans h.size d.size,fun k e f=>(d.block k (Nat.lt_of_lt_of_le e h.size) f).trans (h.block k e f),h.still.trans d.still⟩
theorem sc.below {p B:Nat} {a b:World} (h:sc p a b) (c:B≤p) (e:B≤a.heap.size):Below B a b:=⟨h.still.1,h.still.2.1,h.still.2.2,h.size,fun k d=>h.block k (by omega) (by omega)⟩
end Go.Proofs.YtofpegbpgkkgkaaGreatDoor
