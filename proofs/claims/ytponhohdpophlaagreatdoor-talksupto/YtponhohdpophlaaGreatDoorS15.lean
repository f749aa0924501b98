import Derived.Test.YtponhohdpophlaaGreatDoorS13
import Derived.Test.YtponhohdpophlaaGreatDoorS10
import Derived.Lib.SlBytesConst
namespace Go.Proofs.YtponhohdpophlaaGreatDoor
set_option maxHeartbeats 8000000
set_option maxRecDepth 1000000
open Go renaming heap_setCell_same->Ro,TypeId->Za
open Go.IntKind renaming i64->J,wrap_i64->QY
open Go.Lib renaming cell_of_heap->Q3
open Go.Obj renaming cells->YU
open Go.RowKit renaming Hid->H,Below->Y6,intOf->Y9
open Go.Value renaming int->I,slice->L,string->T,bool->YW
open _root_.List renaming getElem_mem->QU,length_append->RI,length_cons->RQ,length_map->RU,getElem?_eq_getElem->Re,mem_append->Rx,mem_singleton->Ry,map_append->Sh,getElem?_map->TV
open _root_.Nat renaming le_refl->QR,zero_le->QS,le_trans->Rn
open _root_.Option renaming none->N,some->S,map_some->UI
open Go.RowKit
structure TE where
 g:Nat
 n:Nat
 c:Nat
 s:QF
structure ME where
 v:QJ
 n:Nat
 k:Nat
def TE.val(x:TE):QJ:=L (S ⟨x.g,0,none⟩) x.n x.c
def pR(k:Nat):List QJ:=[I J (-(k:Int)),I J 0,T (bs []),L none 0 0,T (bs [])]
def oh(w:QI)(x:TE):Prop:=x.n<=1048576/\∃cur,w.heap[x.g]? =S (YU cur 9 (0,0))/\∀j,j < x.n->cur[j]? =S (T (bs x.s))
def kR(w:QI)(x:ME):Prop:=(x.n<=2097152/\x.k<=1099511627776)/\(∀g,x.v.ownBlock=S g->g < w.heap.size)/\∃a c,x.v=L a x.n c/\(x.n=0\/∃g cur,a=S ⟨g,0,none⟩/\w.heap[g]? =S (YU cur 91 (0,0))/\∀j i,j < x.n->i < 5->cur[j * 5+i]? =(pR x.k)[i]?)
theorem oh.xt{A:Nat->Prop}{w w':QI}{x:TE}(h:oh w x)(b:aC A w w')(c:¬A x.g):oh w' x:=by
 obtain ⟨d,a,e,r⟩:=h;exact ⟨d,a,b.some_ e c,r⟩
theorem kR.xt{A:Nat->Prop}{w w':QI}{x:ME}(h:kR w x)(j:aC A w w')(k:∀g b,w.heap[g]? =S (YU b 91 (0,0))->x.v.ownBlock=S g->¬A g):kR w' x:=by
 obtain ⟨l,d,a,c,e,r⟩:=h;refine ⟨l,λg e=>Nat.lt_of_lt_of_le (d g e) j.size,a,c,e,?_⟩
 rcases r with r | ⟨g,b,f,i,r⟩
 .exact .inl r
 exact .inr ⟨g,b,f,j.some_ i (k g b i (by rw [e,f];rfl)),r⟩
theorem aI{A:Nat->Prop}{w w':QI}{b j n:Nat}{e:Za}{v:QJ}{k:List QJ}(h:w.ownsRow b e j v n k)(o:aC A w w')(p:∀g a,w.heap[g]? =S (YU a e (0,0))->v.ownBlock=S g->¬A g):w'.ownsRow b e j v n k:=by
 obtain ⟨m,d⟩:=h;refine ⟨m,?_⟩
 rcases d with d | ⟨g,c,a,f,l,i,r⟩
 .exact .inl d
 exact .inr ⟨g,c,a,f,l,o.some_ i (p g a i (by rw [f];rfl)),r⟩
theorem ik{w:QI}{c j n g:Nat}{e:Za}{v:QJ}{k:List QJ}(h:w.ownsRow c e j v n k)(b:v.ownBlock=S g):∃a,w.heap[g]? =S (YU a e (0,0)):=by
 rcases h.2 with ⟨d,_⟩ | ⟨l,f,a,d,_,i,_⟩
 .rw [d] at b;cases b
 rw [d] at b;injection b with b;subst b;exact ⟨a,i⟩
structure ft(w:QI)(bb N came:Nat)(kv wv:QJ)(ts:List TE)(ss:List QF)(ms:List ME)(os:List Nat)(vM vO vT vS:QJ):Prop where
 xp:w.heap[bb]? =S (YU #[I J N,I J came,YW false,kv,wv,vM,vO,vT,vS] 47 (0,0))
 rT:w.ownsRow 0 30 1 vT ts.length (ts.map TE.val)
 rS:w.ownsRow 0 9 1 vS ss.length (ah ss)
 rM:w.ownsRow 0 43 1 vM ms.length (ms.map ME.v)
 rO:w.ownsRow 0 3 1 vO os.length (bc os)
 mt:∀x∈ts,oh w x/\vS.ownBlock≠S x.g
 mm:∀x∈ms,kR w x
section
variable {w w' w2:QI} {bb N came:Nat} {kv wv vM vO vT vS:QJ} {ts:List TE} {ss:List QF} {ms:List ME} {os:List Nat}
theorem ft.lt(h:ft w bb N came kv wv ts ss ms os vM vO vT vS):bb < w.heap.size:=aq h.xp
theorem ft.yg(h:ft w bb N came kv wv ts ss ms os vM vO vT vS){k b:Nat}{i j:QJ}(o:aA bb w w')(n:w'.heap[bb]? =S (YU #[I J k,I J b,YW false,i,j,vM,vO,vT,vS] 47 (0,0))):ft w' bb k b i j ts ss ms os vM vO vT vS:=by
 have c:=aC.same o
 have d:∀{g:Nat} {a:Array QJ} {e:Za},e≠47->w.heap[g]? =S (YU a e (0,0))->¬g=bb:=λm e l=>by
  rw [l,h.xp] at e;injection e with e;injection e with _ e _;exact m e.symm
 refine ⟨n,aI h.rT c λg a e _=>d (by decide) e,aI h.rS c λg a e _=>d (by decide) e,aI h.rM c λg a e _=>d (by decide) e,aI h.rO c λg a e _=>d (by decide) e,λx f=>⟨?_,(h.mt x f).2⟩,λx f=>?_⟩
 .obtain ⟨_,a,e,_⟩:=(h.mt x f).1;exact (h.mt x f).1.xt c (d (by decide) e)
 exact (h.mm x f).xt c λg a e _=>d (by decide) e
theorem ft.xo(h:ft w bb N came kv wv ts ss ms os vM vO vT vS)(c:Y6 w.heap.size w w'):ft w' bb N came kv wv ts ss ms os vM vO vT vS:=by
 have a:aC (λ_=>False) w w':=aC.below c;exact ⟨ae c h.xp,aI h.rT a λ_ _ _ _=>id,aI h.rS a λ_ _ _ _=>id,aI h.rM a λ_ _ _ _=>id,aI h.rO a λ_ _ _ _=>id,λx b=>⟨(h.mt x b).1.xt a id,(h.mt x b).2⟩,λx b=>(h.mm x b).xt a λ_ _ _ _=>id⟩
theorem ft.xt{A:Nat->Prop}(h:ft w bb N came kv wv ts ss ms os vM vO vT vS)(a:aC A w w')(d:¬A bb)(f:∀g,vT.ownBlock=S g->¬A g)(i:∀g,vS.ownBlock=S g->¬A g)(j:∀g,vM.ownBlock=S g->¬A g)(k:∀g,vO.ownBlock=S g->¬A g)(l:∀x∈ts,¬A x.g)(m:∀x∈ms,∀g c,w.heap[g]? =S (YU c 91 (0,0))->x.v.ownBlock=S g->¬A g):ft w' bb N came kv wv ts ss ms os vM vO vT vS:=
 ⟨a.some_ h.xp d,aI h.rT a λg _ _ e=>f g e,aI h.rS a λg _ _ e=>i g e,aI h.rM a λg _ _ e=>j g e,aI h.rO a λg _ _ e=>k g e,λx b=>⟨(h.mt x b).1.xt a (l x b),(h.mt x b).2⟩,λx b=>(h.mm x b).xt a (m x b)⟩
end
theorem cA{w:QI}{b l n g:Nat}{e i:Za}{v:QJ}{m:List QJ}{d:Array QJ}(h:w.ownsRow b e l v n m)(k:w.heap[g]? =S (YU d i (0,0)))(f:e≠i):¬v.ownBlock=S g:=λj=>by
 obtain ⟨c,a⟩:=ik h j;rw [k] at a;injection a with a;injection a with _ a _;exact f a.symm
theorem kC{w w2:QI}{o:Obj}{v:QJ}{g:Nat}(b:(v.ownBlock=S g/\(w.alloc o).grownBy w2 (S g))\/(g=(w.alloc o).heap.size/\(w.alloc o).grownBy w2 none)):aC (λk=>v.ownBlock=S k) w w2:=by
 have d:aC (λ_=>False) w (w.alloc o):=aC.below ((Below.refl _ _).alloc (QR _) _)
 rcases b with ⟨c,a⟩ | ⟨c,a⟩
 .exact (d.mono (B:=λk=>v.ownBlock=S k) (λ_ _ f=>f.elim)).trans (aC.grown a) (λk _ e=>c.trans e)
 exact (d.mono (B:=λk=>v.ownBlock=S k) (λ_ _ f=>f.elim)).trans (aC.grown a) (λk _ e=>by cases e)
theorem mE{w w2:QI}{o:Obj}{v:QJ}{g:Nat}(b:(v.ownBlock=S g/\(w.alloc o).grownBy w2 (S g))\/(g=(w.alloc o).heap.size/\(w.alloc o).grownBy w2 none)):v.ownBlock=S g\/w.heap.size < g:=by
 rcases b with ⟨a,_⟩ | ⟨a,_⟩
 .exact .inl a
 right;rw [a];simp
section
variable {w w2:QI} {bb N came g:Nat} {kv wv vM vO vT vS v':QJ} {ts:List TE} {ss:List QF} {ms:List ME} {os:List Nat} {o:Obj}
theorem ft.opT(h:ft w bb N came kv wv ts ss ms os vM vO vT vS){x:TE}(t:oh w x)(m:vS.ownBlock≠S x.g)(j:w2.ownsRow 0 30 1 v' (ts.length+1) (ts.map TE.val++[x.val]))
  (l:(vT.ownBlock=S g/\(w.alloc o).grownBy w2 (S g))\/(g=(w.alloc o).heap.size/\(w.alloc o).grownBy w2 none)):ft (w2.setCell ⟨bb,7,none⟩ v') bb N came kv wv (ts++[x]) ss ms os vM vO v' vS/\aC (λk=>k=bb\/vT.ownBlock=S k) w (w2.setCell ⟨bb,7,none⟩ v'):=by
 have i:=kC l;have p:=i.some_ h.xp (cA h.rT h.xp (by decide));have n:aA bb w2 (w2.setCell ⟨bb,7,none⟩ v'):=(aA.refl _ _).setCell _;have b:aC (λk=>k=bb\/vT.ownBlock=S k) w (w2.setCell ⟨bb,7,none⟩ v'):=(i.mono (λ_ _ e=> .inr e)).trans (aC.same n) (λ_ _ e=> .inl e)
 have d:∀{k:Nat} {a:Array QJ} {e:Za},e≠47->30≠e->w.heap[k]? =S (YU a e (0,0))->¬(k=bb\/vT.ownBlock=S k):=λr s e f=>by
  rcases f with f | f
  .rw [f,h.xp] at e;injection e with e;injection e with _ e _;exact r e.symm
  exact cA h.rT e s f
 have q:∀{y:TE},oh w y->oh (w2.setCell ⟨bb,7,none⟩ v') y:=λc=>by
  obtain ⟨_,a,e,_⟩:=id c;exact c.xt b (d (by decide) (by decide) e)
 refine ⟨⟨Ro w2 bb 7 _ _ v' p,?_,aI h.rS b λk a e _=>d (by decide) (by decide) e,aI h.rM b λk a e _=>d (by decide) (by decide) e,aI h.rO b λk a e _=>d (by decide) (by decide) e,λy c=>?_,λy c=>?_⟩,b⟩
 .rw [RI,Sh];refine aI j (aC.same n) λk a e _ f=>?_;rw [f,p] at e;simp at e
 .rcases Rx.1 c with c | c
  .exact ⟨q (h.mt y c).1,(h.mt y c).2⟩
  simp only [Ry] at c;subst c;exact ⟨q t,m⟩
 exact (h.mm y c).xt b λg a e _=>d (by decide) (by decide) e
theorem ft.opS(h:ft w bb N came kv wv ts ss ms os vM vO vT vS){t:QF}(s:v'.ownBlock=S g)(l:w2.ownsRow 0 9 1 v' (ss.length+1) (ah ss++[T (bs t)]))
  (j:(vS.ownBlock=S g/\(w.alloc o).grownBy w2 (S g))\/(g=(w.alloc o).heap.size/\(w.alloc o).grownBy w2 none)):ft (w2.setCell ⟨bb,8,none⟩ v') bb N came kv wv ts (ss++[t]) ms os vM vO vT v'/\aC (λk=>k=bb\/vS.ownBlock=S k) w (w2.setCell ⟨bb,8,none⟩ v'):=by
 have i:=kC j;have p:=i.some_ h.xp (cA h.rS h.xp (by decide));have n:aA bb w2 (w2.setCell ⟨bb,8,none⟩ v'):=(aA.refl _ _).setCell _;have c:aC (λk=>k=bb\/vS.ownBlock=S k) w (w2.setCell ⟨bb,8,none⟩ v'):=(i.mono (λ_ _ e=> .inr e)).trans (aC.same n) (λ_ _ e=> .inl e)
 have d:∀{k:Nat} {a:Array QJ} {e:Za},e≠47->9≠e->w.heap[k]? =S (YU a e (0,0))->¬(k=bb\/vS.ownBlock=S k):=λm q e b=>by
  rcases b with b | b
  .rw [b,h.xp] at e;injection e with e;injection e with _ e _;exact m e.symm
  exact cA h.rS e q b
 refine ⟨⟨Ro w2 bb 8 _ _ v' p,aI h.rT c λk a e _=>d (by decide) (by decide) e,?_,aI h.rM c λk a e _=>d (by decide) (by decide) e,aI h.rO c λk a e _=>d (by decide) (by decide) e,λy f=>?_,λy f=>?_⟩,c⟩
 .rw [RI];have:ah (ss++[t])=ah ss++[T (bs t)]:=by simp [ah]
  rw [this];refine aI l (aC.same n) λk a e _ b=>?_;rw [b,p] at e;simp at e
 .obtain ⟨_,a,e,_⟩:=id (h.mt y f).1;have r:=aq e;refine ⟨(h.mt y f).1.xt c ?_,?_⟩
  .rintro (b | b)
   .rw [b,h.xp] at e;simp at e
   exact (h.mt y f).2 b
  rw [s];intro b;injection b with b
  rcases mE j with m | m
  .exact (h.mt y f).2 (by rw [m,b])
  omega
 exact (h.mm y f).xt c λg a e _=>d (by decide) (by decide) e
theorem ft.opM(h:ft w bb N came kv wv ts ss ms os vM vO vT vS){x:ME}(s:kR w x)(j:w2.ownsRow 0 43 1 v' (ms.length+1) (ms.map ME.v++[x.v]))
  (l:(vM.ownBlock=S g/\(w.alloc o).grownBy w2 (S g))\/(g=(w.alloc o).heap.size/\(w.alloc o).grownBy w2 none)):ft (w2.setCell ⟨bb,5,none⟩ v') bb N came kv wv ts ss (ms++[x]) os v' vO vT vS/\aC (λk=>k=bb\/vM.ownBlock=S k) w (w2.setCell ⟨bb,5,none⟩ v'):=by
 have i:=kC l;have n:=i.some_ h.xp (cA h.rM h.xp (by decide));have m:aA bb w2 (w2.setCell ⟨bb,5,none⟩ v'):=(aA.refl _ _).setCell _;have b:aC (λk=>k=bb\/vM.ownBlock=S k) w (w2.setCell ⟨bb,5,none⟩ v'):=(i.mono (λ_ _ e=> .inr e)).trans (aC.same m) (λ_ _ e=> .inl e)
 have d:∀{k:Nat} {a:Array QJ} {e:Za},e≠47->43≠e->w.heap[k]? =S (YU a e (0,0))->¬(k=bb\/vM.ownBlock=S k):=λq r e f=>by
  rcases f with f | f
  .rw [f,h.xp] at e;injection e with e;injection e with _ e _;exact q e.symm
  exact cA h.rM e r f
 have p:∀{y:ME},kR w y->kR (w2.setCell ⟨bb,5,none⟩ v') y:=λc=>c.xt b λg a e _=>d (by decide) (by decide) e;refine ⟨⟨Ro w2 bb 5 _ _ v' n,aI h.rT b λk a e _=>d (by decide) (by decide) e,aI h.rS b λk a e _=>d (by decide) (by decide) e,?_,aI h.rO b λk a e _=>d (by decide) (by decide) e,λy c=>?_,λy c=>?_⟩,b⟩
 .rw [RI,Sh];refine aI j (aC.same m) λk a e _ f=>?_;rw [f,n] at e;simp at e
 .obtain ⟨_,a,e,_⟩:=id (h.mt y c).1;exact ⟨(h.mt y c).1.xt b (d (by decide) (by decide) e),(h.mt y c).2⟩
 rcases Rx.1 c with c | c
 .exact p (h.mm y c)
 simp only [Ry] at c;subst c;exact p s
theorem ft.opO(h:ft w bb N came kv wv ts ss ms os vM vO vT vS){k0:Nat}(i:w2.ownsRow 0 3 1 v' (os.length+1) (bc os++[I J (k0:Int)]))
  (l:(vO.ownBlock=S g/\(w.alloc o).grownBy w2 (S g))\/(g=(w.alloc o).heap.size/\(w.alloc o).grownBy w2 none)):ft (w2.setCell ⟨bb,6,none⟩ v') bb N came kv wv ts ss ms (os++[k0]) vM v' vT vS/\aC (λk=>k=bb\/vO.ownBlock=S k) w (w2.setCell ⟨bb,6,none⟩ v'):=by
 have f:=kC l;have n:=f.some_ h.xp (cA h.rO h.xp (by decide));have m:aA bb w2 (w2.setCell ⟨bb,6,none⟩ v'):=(aA.refl _ _).setCell _;have b:aC (λk=>k=bb\/vO.ownBlock=S k) w (w2.setCell ⟨bb,6,none⟩ v'):=(f.mono (λ_ _ e=> .inr e)).trans (aC.same m) (λ_ _ e=> .inl e)
 have c:∀{k:Nat} {a:Array QJ} {e:Za},e≠47->3≠e->w.heap[k]? =S (YU a e (0,0))->¬(k=bb\/vO.ownBlock=S k):=λp q e d=>by
  rcases d with d | d
  .rw [d,h.xp] at e;injection e with e;injection e with _ e _;exact p e.symm
  exact cA h.rO e q d
 refine ⟨⟨Ro w2 bb 6 _ _ v' n,aI h.rT b λk a e _=>c (by decide) (by decide) e,aI h.rS b λk a e _=>c (by decide) (by decide) e,aI h.rM b λk a e _=>c (by decide) (by decide) e,?_,λy j=>?_,λy j=>?_⟩,b⟩
 .rw [RI,kH];refine aI i (aC.same m) λk a e _ d=>?_;rw [d,n] at e;simp at e
 .obtain ⟨_,a,e,_⟩:=id (h.mt y j).1;exact ⟨(h.mt y j).1.xt b (c (by decide) (by decide) e),(h.mt y j).2⟩
 exact (h.mm y j).xt b λg a e _=>c (by decide) (by decide) e
end
open Go.Proofs.Tryz
def uQ(l:List aX):Prop:=l.length<=1048576/\∀m∈l,m.xd.length<=255
theorem wT(l:List (aX×QJ))(k i:Nat)(h:k < l.length)(b:i < 5):(gC l)[k * 5+i]? =(bh l[k].1 l[k].2)[i]? :=by
 induction l generalizing k with
 | nil=>simp at h
 | cons x l ih=>
  show ((bh x.1 x.2).toList++gC l)[k * 5+i]? =_;have a:(bh x.1 x.2).toList.length=5:=rfl
  cases k with
  | zero=>
   rw [List.getElem?_append_left (by rw [a];omega),Array.getElem?_toList];simp
  | succ k=>
   rw [List.getElem?_append_right (by rw [a];omega),a,show (k+1) * 5+i - 5=k * 5+i by omega]
   exact ih k (by simpa using h)
theorem fW.cells{w:QI}{a:QK}{n u:Nat}{f:List aX}(h:fW w (L a n u) f):n=f.length/\∀k (C:k < f.length),∃b d p v,a=S ⟨b,d,N⟩/\b < w.heap.size/\
  w.cell? ⟨b,d+k * 5,N⟩=S (I J f[k].id)/\w.cell? ⟨b,d+k * 5+1,N⟩=S (I J f[k].time)/\w.cell? ⟨b,d+k * 5+2,N⟩=S (T (bs f[k].xk))/\
  w.cell? ⟨b,d+k * 5+3,N⟩=S (.slice p f[k].xd.length v)/\w.cell? ⟨b,d+k * 5+4,N⟩=S (T (bs f[k].body))/\
  ∀j (y:j < f[k].xd.length),∃c o,p=S ⟨c,o,N⟩/\c < w.heap.size/\w.cell? ⟨c,o+j,N⟩=S (T (bs f[k].xd[j])):=by
 obtain ⟨l,G,Q,R⟩:=h;subst G;obtain ⟨U,A,e,O⟩:=Q.shape;injection e with e1 e2 e3;subst e1 e3;refine ⟨by rw [e2,RU],λk C=>?_⟩
 have m:k < l.length:=by simpa using C
 have E:(l.map (·.1))[k]=l[k].1:=by simp
 rw [E];obtain ⟨t,v,M,z⟩:=(R l[k] (QU m)).one
 have g:∀i,i < 5->∃b d,a=S ⟨b,d,N⟩/\b < w.heap.size/\w.cell? ⟨b,d+k * 5+i,N⟩=(bh l[k].1 l[k].2)[i]? :=λi s=>by
  obtain ⟨b,d,e,x,h⟩:=O k i m s;exact ⟨b,d,e,x,by rw [Nat.add_assoc,h,wT l k i m s]⟩
 obtain ⟨b,d,B,x,W⟩:=g 0 (by omega)
 have q:∀i,i < 5->w.cell? ⟨b,d+k * 5+i,N⟩=(bh l[k].1 l[k].2)[i]? :=λi s=>by
  obtain ⟨V,D,r,_,h⟩:=g i s;rw [B] at r;injection r with e;injection e with e1 e2;subst e1 e2;exact h
 refine ⟨b,d,t,v,B,x,q 0 (by omega),q 1 (by omega),q 2 (by omega),?_,q 4 (by omega),λj y=>?_⟩
 .rw [q 3 (by omega), <-M];rfl
 obtain ⟨c,o,e,P,h⟩:=z j y;exact ⟨c,o,e,P,by rw [h,gn _ _ y]⟩
theorem mU(x:List aX)(vx vy:QJ)(w:QI)(hx:fW w vx x)(hy:fW w vy x)(sx:uQ x):Calls prog 32 #[vx,vy] w λe Q=>e= .returned (YW true)/\Y6 w.heap.size w Q:=by
 obtain ⟨ax,nx,cx,rfl⟩:∃a n c,vx=L a n c:=by obtain ⟨l,_,hr,_⟩:=hx;obtain ⟨a,c,e,_⟩:=hr.shape;exact ⟨_,_,_,e⟩
 obtain ⟨ay,ny,cy,rfl⟩:∃a n c,vy=L a n c:=by obtain ⟨l,_,hr,_⟩:=hy;obtain ⟨a,c,e,_⟩:=hr.shape;exact ⟨_,_,_,e⟩
 obtain ⟨ex,px⟩:=hx.cells;obtain ⟨ey,py⟩:=hy.cells;subst ex ey;have b3:=sx.1;have a2:=K px;have a3:=K py;have a4:=K sx;clear hx hy px py sx;go_enter func32,ntmps32;go_wp2_with fail
 go_loopw [5,6] (λi _ Q=>∃k:Nat,k<=x.length/\i=I J k/\H (Y6 w.heap.size w Q)) (λi _ _=>x.length - (Y9 i).toNat)
 case atStart=>exact ⟨0,QS _,rfl,K (Below.refl _ _)⟩
 case round=>
  obtain ⟨k,hk,rfl,r⟩:=hrel
  by_cases D:k < x.length
  .have b4:(k:Int) < (x.length:Int):=by omega
   obtain ⟨b,c4,c0,ct,rfl,hb,U,V,X,P,Y,Z⟩:=a2.out k D;obtain ⟨b',b6,b7,c1,rfl,c2,v,y,z,s,A,B⟩:=a3.out k D;have O:=a4.out.2 x[k] (QU D)
   generalize x[k]=M at U V X P Y Z v y z s A B O
   obtain ⟨f,g,d,C,Bd⟩:=M;simp only at U V X P Y Z v y z s A B O;have m:H (∀W,Y6 w.heap.size w W->∀(c o:Nat) (u:QJ),w.cell? ⟨c,o,N⟩=S u->W.cell? ⟨c,o,N⟩=S u):=K (λW hW c o u h=>(hW.cell (p:=⟨c,o,N⟩) (by exact au h)).trans h);have q0:=m.out wr r.out _ _ _ U;have q1:=m.out wr r.out _ _ _ V;have q2:=m.out wr r.out _ _ _ X;have q3:=m.out wr r.out _ _ _ P;have q4:=m.out wr r.out _ _ _ Y;have a7:=m.out wr r.out _ _ _ v;have a8:=m.out wr r.out _ _ _ y;have a9:=m.out wr r.out _ _ _ z;have b0:=m.out wr r.out _ _ _ s;have b1:=m.out wr r.out _ _ _ A;have H3:=K P;have a0:=K s;have a1:=K Z;have E:=K B;clear U V X P Y v y z s A Z B;have tI:((f:Int) != (f:Int))=false:=by simp
   have tT:((g:Int) != (g:Int))=false:=by simp
   have tN:((C.length:Int) != (C.length:Int))=false:=by simp
   have tF:((bs d).toList == (bs d).toList)=true:=by simp
   have tB:((bs Bd).toList == (bs Bd).toList)=true:=by simp
   go_wp2_with fail
   go_quiet (fail)
   clear q0 q1 q2 q3 q4 a7 a8 a9 b0 b1 tI tT tF tB tN;go_wp2_with fail
   go_loopw [6] (λj Q=>∃n:Nat,n<=C.length/\j=I J n/\H (Y6 w.heap.size w Q)) (λj _=>C.length - (Y9 j).toNat)
   case atStart=>exact ⟨0,QS _,rfl,K (r.out.trans (an _ _ _))⟩
   case round=>
    obtain ⟨n,hn,rfl,q⟩:=hrel;have r3:=m.out wr q.out _ _ _ H3.out;have c5:=m.out wr q.out _ _ _ a0.out
    by_cases G:n < C.length
    .have b5:(n:Int) < (C.length:Int):=by omega
     obtain ⟨c,o,rfl,hc,y0⟩:=a1.out n G;obtain ⟨c',o',rfl,c3,R⟩:=E.out n G;have z0:=m.out wr q.out _ _ _ y0;have b2:=m.out wr q.out _ _ _ R
     generalize C[n]=t at z0 b2
     have tt:((bs t).toList == (bs t).toList)=true:=by simp
     clear y0 R;go_wp2_with fail
     go_quiet (fail)
     go_wp2_with fail
     exact ⟨⟨n+1,by omega,by go_num,K (q.out.trans (an _ _ _))⟩,by simp [Y9];omega⟩
    have a6:n=C.length:=by omega
    subst a6;go_wp2_with fail
    exact ⟨⟨k+1,by omega,by go_num,q⟩,by simp [Y9];omega⟩
  have a5:k=x.length:=by omega
  subst a5;go_wp2_with fail
  go_ret;exact ⟨rfl,r.out⟩
theorem rH{w:QI}{b n:Nat}{e:Za}{v:QJ}{j:List QJ}(h:w.ownsRow b e 1 v n j):∃a c,v=L a n c/\∀i,i < n->∃g,a=S ⟨g,0,N⟩/\w.cell? ⟨g,i,N⟩=j[i]? :=by
 rcases h.2 with ⟨f,l⟩ | ⟨g,d,k,f,_,m,_,_,_,p⟩
 .exact ⟨N,0,by rw [l];exact f,λi o=>by omega⟩
 exact ⟨_,d,f,λi o=>⟨g,rfl,by rw [Q3 m, <-Array.getElem?_toList, <-List.getElem?_take_of_lt (show i < n * 1 by omega),p]⟩⟩
theorem LD(C d a0:Nat)(kv wv vM vO vT vS:QJ)(B:List TE)(A:List ME)(b:List aX)(w:QI)(h:ft w C d a0 kv wv B (B.map TE.s) A (A.map ME.k) vM vO vT vS)(hk:fW w kv b)(hw:fW w wv b)(hK:uQ b)(b6:B.length<=1099511627776)(b4:A.length<=1099511627776):Calls prog 17 #[.pointer (S ⟨C,0,N⟩)] w λe M=>e= .returned (YW true)/\Y6 w.heap.size w M:=by
 have c3:w.drew.cell? ⟨C,3,N⟩=S kv:=by show w.cell? _=_;rw [Q3 h.xp];rfl
 have c4:w.drew.cell? ⟨C,4,N⟩=S wv:=by show w.cell? _=_;rw [Q3 h.xp];rfl
 have c2:w.cell? ⟨C,2,N⟩=S (YW false):=Q3 h.xp _;have c5:w.cell? ⟨C,5,N⟩=S vM:=Q3 h.xp _;have c6:w.cell? ⟨C,6,N⟩=S vO:=Q3 h.xp _;have c7:w.cell? ⟨C,7,N⟩=S vT:=Q3 h.xp _;have c8:w.cell? ⟨C,8,N⟩=S vS:=Q3 h.xp _;obtain ⟨ax,nx,cx,rfl⟩:∃a n c,kv=L a n c:=by obtain ⟨l,_,hr,_⟩:=hk;obtain ⟨a,c,e,_⟩:=hr.shape;exact ⟨_,_,_,e⟩
 obtain ⟨ay,ny,cy,rfl⟩:∃a n c,wv=L a n c:=by obtain ⟨l,_,hr,_⟩:=hw;obtain ⟨a,c,e,_⟩:=hr.shape;exact ⟨_,_,_,e⟩
 have b1:=K (mU b _ _ w.drew hk hw hK);obtain ⟨aT,cT,eT,hT⟩:=rH h.rT;obtain ⟨aS,cS,eS,hS⟩:=rH h.rS;obtain ⟨aM,cM,eM,hM⟩:=rH h.rM;obtain ⟨aO,cO,eO,hO⟩:=rH h.rO;subst eT eS eM eO;have HT:=K hT;have HS:=K hS;have HM:=K hM;have HO:=K hO;have HH:=K h;have v:H (∀W,Y6 w.heap.size w W->∀(c o:Nat) (u:QJ),w.cell? ⟨c,o,N⟩=S u->W.cell? ⟨c,o,N⟩=S u):=K (λW hW c o u h=>(hW.cell (p:=⟨c,o,N⟩) (by exact au h)).trans h);have H2:=K c2;have H5:=K c5;have H6:=K c6;have H7:=K c7;have H8:=K c8;clear hk hw hK h hT hS hM hO c2 c5 c6 c7 c8;go_enter func17,ntmps17;go_wp2_with fail
 go_region_law (first
  | (go_simp;go_at_call 32;refine b1.out.mono ?_;rintro e w1 ⟨rfl,y⟩;have B1:=K (show Y6 w.heap.size w w1 from ⟨y.os,y.tape,y.output,y.size,y.block⟩);clear y))
 all_goals
  have d2:=v.out w1 B1.out _ _ _ H2.out;clear c3 c4;go_wp2_with fail
  clear d2;go_loopw [4,5] (λi _ M=>∃k:Nat,k<=B.length/\i=I J k/\H (Y6 w.heap.size w M)) (λi _ _=>B.length - (Y9 i).toNat)
  case atStart=>exact ⟨0,QS _,rfl,B1⟩
  case round=>
   clear B1;obtain ⟨k,hk,rfl,O⟩:=hrel;have d7:=v.out wr O.out _ _ _ H7.out
   by_cases s:k < B.length
   .have a3:(k:Int) < (B.length:Int):=by omega
    obtain ⟨gT,rfl,pT⟩:=HT.out k s;obtain ⟨gS,rfl,pS⟩:=HS.out k (by rw [RU];exact s);rw [TV,Re s] at pT;have G:w.cell? ⟨gS,k,N⟩=S (T (bs B[k].s)):=by rw [pS];simp [ah,s]
    have z:=(HH.out.mt B[k] (QU s)).1;simp only [UI] at pT
    generalize B[k]=x at pT G z
    obtain ⟨g,n,c,t⟩:=x;obtain ⟨V,b3,Y,r⟩:=z;simp only [TE.val] at pT G Y r V;have b0:=K pT;have a9:=K G;have a6:=K Y;have P:=K r;clear pT pS G Y r;go_wp2_with fail
    clear d7;go_loopw [5] (λj M=>∃m:Nat,m<=n/\j=I J m/\H (Y6 w.heap.size w M)) (λj _=>n - (Y9 j).toNat)
    case atStart=>exact ⟨0,QS _,rfl,O⟩
    case round=>
     obtain ⟨m,hm,rfl,f⟩:=hrel;have e7:=v.out wr f.out _ _ _ H7.out;have e8:=v.out wr f.out _ _ _ H8.out;have eT:=v.out wr f.out _ _ _ b0.out;have eS:=v.out wr f.out _ _ _ a9.out;rw [RU] at e8
     by_cases U:m < n
     .have a4:(m:Int) < (n:Int):=by omega
      have ec:=v.out wr f.out g m (T (bs t)) (by rw [Q3 a6.out];exact P.out m U);have tt:((bs t).toList == (bs t).toList)=true:=by simp
      go_wp2_with fail
      go_quiet (fail)
      go_wp2_with fail
      exact ⟨⟨m+1,by omega,by go_num,K (f.out.trans (an _ _ _))⟩,by simp [Y9];omega⟩
     have R:m=n:=by omega
     subst R;go_wp2_with fail
     exact ⟨⟨k+1,by omega,by go_num,f⟩,by simp [Y9];omega⟩
   have Q:k=B.length:=by omega
   subst Q;go_wp2_with fail
   clear d7;go_loopw [6,7,8] (λi _ _ M=>∃k:Nat,k<=A.length/\i=I J k/\H (Y6 w.heap.size w M)) (λi _ _ _=>A.length - (Y9 i).toNat)
   case atStart=>exact ⟨0,QS _,rfl,O⟩
   case round=>
    clear O;obtain ⟨k,hk,rfl,O⟩:=hrel;have d5:=v.out wr O.out _ _ _ H5.out
    by_cases s:k < A.length
    .have a3:(k:Int) < (A.length:Int):=by omega
     obtain ⟨gM,rfl,Z⟩:=HM.out k s;obtain ⟨gO,rfl,pO⟩:=HO.out k (by rw [RU];exact s);rw [TV,Re s] at Z;have E:w.cell? ⟨gO,k,N⟩=S (I J (A[k].k:Int)):=by rw [pO];simp [bc,s]
     have z:=HH.out.mm A[k] (QU s);simp only [UI] at Z
     generalize A[k]=x at Z E z
     obtain ⟨xv,n,q⟩:=x;obtain ⟨V,_,a,c,a1,r⟩:=z;simp only at Z E a1 r V;subst a1;have a7:=K Z;have a8:=K E;have P:=K r;clear Z pO E r;go_wp2_with fail
     clear d5;go_loopw [7,8] (λj _ M=>∃m:Nat,m<=n/\j=I J m/\H (Y6 w.heap.size w M)) (λj _ _=>n - (Y9 j).toNat)
     case atStart=>exact ⟨0,QS _,rfl,O⟩
     case round=>
      obtain ⟨m,hm,rfl,f⟩:=hrel;have e5:=v.out wr f.out _ _ _ H5.out;have eM:=v.out wr f.out _ _ _ a7.out
      by_cases U:m < n
      .have a4:(m:Int) < (n:Int):=by omega
       obtain ⟨g,b3,rfl,Y,a2⟩:=P.out.resolve_left (by omega)
       have X:∀i,i < 5->wr.cell? ⟨g,m * 5+i,N⟩=(pR q)[i]? :=λi hi=>by
        have e1:=a2 m i U hi;have e2:(pR q)[i]? =S ((pR q)[i]'(by simp [pR];omega)):=Re _;rw [e2] at e1 ⊢;exact v.out wr f.out g (m * 5+i) _ (by rw [Q3 Y];exact e1)
       have k0:wr.cell? ⟨g,m * 5,N⟩=S (I J (-(q:Int))):=X 0 (by omega);have k1:wr.cell? ⟨g,m * 5+1,N⟩=S (I J 0):=X 1 (by omega);have k2:wr.cell? ⟨g,m * 5+2,N⟩=S (T (bs [])):=X 2 (by omega);have k3:wr.cell? ⟨g,m * 5+3,N⟩=S (L N 0 0):=X 3 (by omega);have k4:wr.cell? ⟨g,m * 5+4,N⟩=S (T (bs [])):=X 4 (by omega);obtain ⟨W1,D⟩:=QE (wr.alloc (YU #[I J (-(q:Int)),I J 0,T (bs []),L N 0 0,T (bs [])] 91));have BW:Y6 w.heap.size w W1:=by rw [<-D];exact f.out.alloc f.out.size _
       have x1:=QH D;obtain ⟨i0, -,i2,i3,i4⟩:=QO x1;have e6:=v.out W1 BW _ _ _ H6.out;have eO:=v.out W1 BW _ _ _ a8.out;rw [RU] at e6;have a5:=K BW;have b5:IntKind.i64.wrap (-(q:Int))= -(q:Int):=by rw [QY];omega
       have t1:(-(q:Int) != -(q:Int))=false:=by simp
       have t2:(bs []).toList.isEmpty=true:=by rw [Lib.toList_data];rfl
       have b2:=K D;clear D x1 X a2 Y BW;go_wp2_with fail
       rw [b2.out];clear k0 k1 k2 k3 k4 e5 eM;go_quiet (fail)
       go_wp2_with fail
       exact ⟨⟨m+1,by omega,by go_num,K (a5.out.trans (an _ _ _))⟩,by simp [Y9];omega⟩
      have R:m=n:=by omega
      subst R;go_wp2_with fail
      exact ⟨⟨k+1,by omega,by go_num,f⟩,by simp [Y9];omega⟩
    have Q:k=A.length:=by omega
    subst Q;go_wp2_with fail
    go_ret;exact ⟨rfl,O.out⟩
theorem CM{A:Nat->Prop}{B:Nat}{a b:QI}(h:aC A a b)(c:∀k,A k->B<=k)(d:B<=a.heap.size):Y6 B a b:=
 ⟨h.still.1,h.still.2.1,h.still.2.2,h.size,λk f=>h.block k (by omega) (λe=>by have:=c k e;omega)⟩
structure WR(B:Nat)(w w':QI)(v:QJ)(acc:QF):Prop where
 row:eQ w' v acc
 own:∀k,v.ownBlock=S k->B<=k
 below:Y6 B w w'
theorem WR.le{B:Nat}{w b:QI}{v:QJ}{a:QF}(h:WR B w b v a)(c:B<=w.heap.size):B<=b.heap.size:=Rn c h.below.size
theorem WR.step{B:Nat}{w w' b:QI}{v d:QJ}{c a:QF}(h:WR B w w' v c)(f:B<=w.heap.size)(j:eQ b d a)(g:aC (λk=>v.ownBlock=S k) w' b)(i:∀k,d.ownBlock=S k->v.ownBlock=S k\/w'.heap.size<=k):WR B w b d a:=
 ⟨j,λk e=>(i k e).elim (h.own k) (λe=>Rn (h.le f) e),h.below.trans (CM g h.own (h.le f))⟩
theorem Ab(l:List QF)(h:∀t∈l,t.length<=255):(fi l).length<=256 * l.length:=by
 induction l with
 | nil=>simp [fi]
 | cons t l ih=>
  have b:=ih (λx a=>h x (List.mem_cons_of_mem _ a));have c:=h t (List.mem_cons_self ..);have e:fi (t::l)=j6 t++fi l:=by simp [fi]
  rw [e,RI,j6,RI,aY,RQ];omega
theorem qb(o c:Nat)(l:QF)(d:List QF)(a:QF)(v:QJ)(w:QI)(h:bg w v d.length 1 (ah d))(hz:dJ ⟨o,c,l,d,a⟩):Calls prog 270 #[.agg #[I J o,I J c,T (bs l),v,T (bs a)]] w λe w'=>e= .returned (T (bs (bT ⟨o,c,l,d,a⟩)))/\Y6 w.heap.size w w':=by
 obtain ⟨z1,z2,z3,z4,z5,z6⟩:=hz;simp only at z1 z2 z3 z4 z5 z6;obtain ⟨av,cv,rfl,n⟩:=h.one;have HV:=K n;have Y:=K z5;obtain ⟨j,p⟩:=QE (w.alloc (YU #[I J o,I J c,T (bs l),L av d.length cv,T (bs a)] 91));have B0:=QG p;have X0:=QH p;have d1:j.heap.size=w.heap.size+1:=by rw [<-p];simp
 have b2:=Lib.run_convert_bytes_const (P:=prog) j 100 5 #[I .u8 77] 1 1 underlying100 underlying5;have B1:Y6 j.heap.size j (j.alloc (YU #[I .u8 77] 5 (1,2))):=(Below.refl _ _).alloc (QR _) _;have R1:eQ (j.alloc (YU #[I .u8 77] 5 (1,2))) (L (S ⟨j.heap.size,0,N⟩) 1 1) [77]:= .inr ⟨j.heap.size,1,#[I .u8 77],(1,2),rfl,heap_alloc_new j _,.inr (QR _),QR _,by unfold maxLen;decide,rfl,rfl⟩
 obtain ⟨W1,R⟩:=QE (j.alloc (YU #[I .u8 77] 5 (1,2)));rw [show (#[I .u8 77]:Array QJ).size=1 from rfl,R] at b2;rw [R] at R1 B1;rw [d1] at b2 R1;have S1:WR (w.heap.size+1) j W1 (L (S ⟨w.heap.size+1,0,N⟩) 1 1) [77]:=⟨R1,λk e=>by injection e with e;have e:w.heap.size+1=k:=e;omega,B1.mono (by omega)⟩
 have hf:=aj l;have d8:=aj a;have d7:=K X0;have V:=K B0;have d6:=K p;have y:=K S1;have u:∀{W:QI},Y6 (w.heap.size+1) j W->W.heap[w.heap.size]? =S (YU #[I J o,I J c,T (bs l),L av d.length cv,T (bs a)] 91 (0,0)):=λhb=>(hb.block _ (by omega)).trans X0;have U:H (∀W:QI,Y6 (w.heap.size+1) j W->W.heap[w.heap.size]? =S (YU #[I J o,I J c,T (bs l),L av d.length cv,T (bs a)] 91 (0,0))):=K (λW hb=>u hb);have i0:W1.cell? ⟨w.heap.size,0,N⟩=S (I J o):=Q3 (U.out _ S1.below) _;clear h n z5 X0 B0 R1 B1 S1 u R;go_enter func270,ntmps270;go_wp2_with fail
 refine (iy _ [77] o 4 W1 y.out.row (by simp) z1 (by omega)).mono ?_;rintro e w2 ⟨v2,rfl,R2,K2,O2⟩;have a8:([77]++aG 4 o).length<=5:=by rw [RI];simp only [aY,RQ,List.length_nil];omega
 obtain ⟨A2,E⟩:∃A,[77]++aG 4 o=A:=⟨_,rfl⟩;rw [E] at R2 a8;have S2:=y.out.step (by omega) R2 K2 O2;obtain ⟨a2,c2,rfl⟩:=R2.len;have z:=K S2;have b4:=K E;have i2:w2.cell? ⟨w.heap.size,1,N⟩=S (I J c):=Q3 (U.out _ S2.below) _;clear R2 K2 O2 S2 E y;go_wp2_with fail
 refine (iy _ A2 c 4 w2 z.out.row (by omega) z2 (by omega)).mono ?_;rintro e w3 ⟨v3,rfl,R3,K3,O3⟩;have a9:(A2++aG 4 c).length<=9:=by rw [RI];simp only [aY];omega
 obtain ⟨A3,G⟩:∃A,A2++aG 4 c=A:=⟨_,rfl⟩;rw [G] at R3 a9;have S3:=z.out.step (by omega) R3 K3 O3;obtain ⟨a3,c3,rfl⟩:=R3.len;have B:=K S3;have b5:=K G;have i3:w3.cell? ⟨w.heap.size,2,N⟩=S (T (bs l)):=Q3 (U.out _ S3.below) _;clear R3 K3 O3 S3 G z;go_wp2_with fail
 refine (mr _ A3 l 1 w3 B.out.row (by omega) (by omega) (by omega)).mono ?_;rintro e w4 ⟨v4,rfl,R4,K4,O4⟩;have b0:(A3++(aG 1 l.length++l)).length<=300:=by rw [RI];simp only [RI,aY];omega
 obtain ⟨A4,M⟩:∃A,A3++(aG 1 l.length++l)=A:=⟨_,rfl⟩;rw [M] at R4 b0;have S4:=B.out.step (by omega) R4 K4 O4;obtain ⟨a4,c4,rfl⟩:=R4.len;have C:=K S4;have b6:=K M;have i4:w4.cell? ⟨w.heap.size,3,N⟩=S (L av d.length cv):=Q3 (U.out _ S4.below) _;clear R4 K4 O4 S4 M B;go_wp2_with fail
 refine (iy _ A4 d.length 1 w4 C.out.row (by omega) (by omega) (by omega)).mono ?_;rintro e w5 ⟨v5,rfl,R5,K5,O5⟩;have b1:(A4++aG 1 d.length).length<=301:=by rw [RI];simp only [aY];omega
 obtain ⟨A5,O⟩:∃A,A4++aG 1 d.length=A:=⟨_,rfl⟩;rw [O] at R5 b1;have S5:=C.out.step (by omega) R5 K5 O5;obtain ⟨a5,c5,rfl⟩:=R5.len;have c1:=K S5;have b7:=K O;have i5:w5.cell? ⟨w.heap.size,3,N⟩=S (L av d.length cv):=Q3 (U.out _ S5.below) _;clear R5 K5 O5 S5 O C;go_wp2_with fail
 go_loopw [3,28] (λb i w'=>∃k:Nat,k<=d.length/\i=I J k/\H (WR (w.heap.size+1) j w' b (A5++fi (d.take k)))) (λ_ i _=>d.length - (Y9 i).toNat)
 case atStart=>
  refine ⟨0,QS _,rfl,K ?_⟩;rw [List.take_zero,show fi []=[] from rfl,List.append_nil];exact c1.out
 case round=>
  obtain ⟨k,hk,rfl,m⟩:=hrel
  have d2:(fi (d.take k)).length<=256 * k:=by
   have:=Ab (d.take k) (λt ht=>Y.out t (List.mem_of_mem_take ht));rw [List.length_take] at this;omega
  by_cases q:k < d.length
  .have d5:(k:Int) < (d.length:Int):=by omega
   obtain ⟨g,d4,rfl,c8,c0⟩:=HV.out k q;rw [gn d k q] at c0;have d0:wr.cell? ⟨g,d4+k,N⟩=S (T (bs d[k])):=((V.out.trans (m.out.below.mono (by omega))).cell (by exact c8)).trans c0;have HT:H (fi (d.take (k+1))=fi (d.take k)++j6 d[k]):=K (um d k q);have d3:=Y.out d[k] (QU q);obtain ⟨t,et⟩:=QE (d[k]);rw [et] at d0 HT d3;obtain ⟨f,r⟩:=QE (A5++fi (d.take k));have a1:f.length<=301+256 * k:=by rw [<-r,RI];omega
   have HN:H (A5++fi (d.take (k+1))=f++(aG 1 t.length++t)):=K (by rw [HT.out, <-List.append_assoc,r];rfl);rw [r] at m;obtain ⟨a6,c6,Q⟩:=m.out.row.len;subst Q;have x:=K (mr _ f t 1 wr m.out.row (by omega) (by omega) (by omega));clear c0 et r HT;go_wp2_with fail
   refine x.out.mono ?_;rintro e w7 ⟨v7,rfl,s,Z,O7⟩;have S7:=m.out.step (by omega) s Z O7;have D:=K S7;clear s Z O7 S7;go_wp2_with fail
   exact ⟨⟨k+1,by omega,by go_num,by rw [HN.out];exact D⟩,by simp [Y9];omega⟩
  have c9:k=d.length:=by omega
  subst c9;rw [List.take_length] at m d2;obtain ⟨f,r⟩:=QE (A5++fi d);have a1:f.length<=301+256 * d.length:=by rw [<-r,RI];omega
  rw [r] at m
  have hE:bT ⟨o,c,l,d,a⟩=f++(aG 2 a.length++a):=by
   rw [<-r, <-b7.out, <-b6.out, <-b5.out, <-b4.out];simp [bT,j6]
  obtain ⟨a6,c6,Q⟩:=m.out.row.len;subst Q;have i6:wr.cell? ⟨w.heap.size,4,N⟩=S (T (bs a)):=Q3 (U.out _ m.out.below) _;have x:=K (mr _ f a 2 wr m.out.row (by omega) (by omega) (by omega));have X:=K hE;clear r hE;go_wp2_with fail
  refine x.out.mono ?_;rintro e w7 ⟨v7,rfl,s,Z,O7⟩;have S7:=m.out.step (by omega) s Z O7;have b3:=s.string;obtain ⟨A7,a0⟩:∃A,f++(aG 2 a.length++a)=A:=⟨_,rfl⟩;rw [a0] at b3 X s;obtain ⟨a7,c7,rfl⟩:=s.len;have D:=K S7;clear s Z O7 S7 a0;go_wp2_with fail
  go_ret;exact ⟨by rw [X.out];rfl,V.out.trans (D.out.below.mono (by omega))⟩
end Go.Proofs.YtponhohdpophlaaGreatDoor
