import Derived.Test.YtofpegbpgkkgkaaGreatDoorS30
import Derived.Test.YtofpegbpgkkgkaaGreatDoorS29
namespace Go.Proofs.YtofpegbpgkkgkaaGreatDoor
set_option maxHeartbeats 8000000
set_option maxRecDepth 1000000
open Go.RowKit
section
variable {E:Nat→Prop} {pp pb mb:Nat} {c:bX} {w w':World} {q:Nat→Nat} {vr:Value} {S:bp} {recs:List UInt8} {vs:Value} {l:List (Option eH)}
theorem bQ.retalk [K:Kn] (h:bQ E pp pb mb c w q vr S recs vs l) (v:Value):@bQ (Kn.mk K.D0 K.n0 v) E pp pb mb c (w.setCell ⟨pp,11,none⟩ v) q vr S recs vs l∧(∀k,ee (w.setCell ⟨pp,11,none⟩ v) pb mb q vr S vs l k→ee w pb mb q vr S vs l k)∧aH (fun k=>k=pp) w (w.setCell ⟨pp,11,none⟩ v):=by
 have s:aL pp w (w.setCell ⟨pp,11,none⟩ v):=(aL.refl _ _).setCell _;have a:aH (fun k=>k=pp) w (w.setCell ⟨pp,11,none⟩ v):=aH.same s;obtain ⟨H,I,J,L,b,f⟩:=h.post.set;obtain ⟨D,F,G⟩:=b.blk;obtain ⟨C,d,t,u,A,M⟩:=h.post.blk;have m:D=C:=by rw [F] at d;injection d with d;injection d
 subst m;have p:=heap_setCell_same w pp 11 _ _ v d;obtain ⟨i,j⟩:=h.post.bag.chg a (fun k e x=>h.post.eb pp h.post.epp (by rw [←x];exact e));have B:∀k,vs.ownBlock=some k→¬k=pp:=fun k e x=>(h.post.sd k e).1 (by rw [x];exact h.post.epp);refine ⟨@bQ.mk (Kn.mk K.D0 K.n0 v) _ _ _ _ _ _ _ _ _ _ _ _ (@dR.mk (Kn.mk K.D0 K.n0 v) _ _ _ _ _ _ _ _ _ _ _ _ ⟨H,I,J,L,⟨⟨_,p,?_⟩,⟨b.rows.1.chg a (fun g e=>(f g (.inl e)).2),b.rows.2.1.chg a (fun g e=>(f g (.inr (.inl e))).2),b.rows.2.2.1.chg a (fun g e=>(f g (.inr (.inr (.inl e)))).2),b.rows.2.2.2.chg a (fun g e=>(f g (.inr (.inr (.inr e)))).2)⟩,b.may⟩,f⟩ (h.post.glo.chg a (fun k e x=>h.post.gpp (by rw [←x];exact e))) h.post.egl h.post.gpp h.post.epp (fun k e=>Nat.lt_of_lt_of_le (h.post.lt k e) a.size) ⟨_,p,by simpa using t,by rw [Array.getElem?_setIfInBounds_ne (by decide)];exact u,by rw [Array.getElem?_setIfInBounds_ne (by decide)];exact A,by rw [Array.getElem?_setIfInBounds_self_of_lt (by omega)];rfl⟩ (@fv.mk (Kn.mk K.D0 K.n0 v) _ _ _ _ _ _ _ i.inn i.row i.due i.kn) (bC h.post.row a B) (fun k e x=>h.post.eb k e (j k x)) (fun g e=>⟨(h.post.sd g e).1,fun x=>(h.post.sd g e).2 (j g x)⟩)) (fun n x e=>?_) h.apart h.len h.keep,fun k e=>e.imp (j k) id,a⟩
 ·rw [Array.toList_setIfInBounds,List.take_set_of_le (by decide)];exact G
 ·have o:=h.ok n x e;have r:∀k,x.own k→¬k=pp:=fun k y z=>o.fe k y (by rw [z];exact h.post.epp);exact rp.mk (o.ses.chg a (fun k y=>r k (.inl y))) (bC o.row a (fun k y=>r k (.inr y))) o.inv o.fe (fun k y z=>o.fb k y (j k z)) o.fs o.fw
structure iJ where
 tb:Nat
 ch:Nat
 va:Value
 vu:Value
 vl:Value
 t:aQ
def iJ.own (x:iJ) (k:Nat):Prop:=lA x.tb x.ch x.va x.vl k
structure hY [K:Kn] (E:Nat→Prop) (pp pb mb:Nat) (w:World) (q:Nat→Nat) (vr:Value) (S:bp) (vs:Value) (l:List (Option eH)) (x:iJ):Prop where
 tk:K.tk= .pointer (some ⟨x.tb,0,none⟩)
 at_:bR w x.tb x.ch pp pb x.va x.vu x.vl (S.mailOf x.t.i).frm (S.mailOf x.t.i).body (S.stayOf x.t.i).length false x.t
 live:x.t.i∈S.live
 ok:dC (S.stayOf x.t.i) x.t
 due:(bV S x.t.i).1≤S.time
 fe:∀k,x.own k→¬E k
 fm:∀k,x.own k→¬ee w pb mb q vr S vs l k
def mJ [Kn] (S:bp):Prop:=∀i∈S.live,0≤(bV S i).2∧(bV S i).2≤(bV S i).1∧(bV S i).1≤10000000000
theorem hY.endIn [K:Kn] {x:iJ} (a:bQ E pp pb mb c w q vr S recs vs l) (h:hY E pp pb mb w q vr S vs l x) (p:mJ S):∃o n,oi w x.tb x.ch pp pb mb q vr x.va x.vu x.vl (S.mailOf x.t.i).frm (S.mailOf x.t.i).body (S.stayOf x.t.i).length S recs x.t c.waits o n:=by
 obtain ⟨t,u,v,o,j,s⟩:=a.post.set;obtain ⟨m,b⟩:=a.post.glo.len;have f:=p _ h.live;have d:∀k,E k→k < w.heap.size∧¬an w pb mb q vr S k∧¬lA x.tb x.ch x.va x.vl k:=fun k e=>⟨a.post.lt k e,a.post.eb k e,fun y=>h.fe k y e⟩
 have i:1≤c.waits.length∧c.waits.length≤100∧∀x∈c.waits,1≤x∧x≤1000000000:=by
  have b:=j.may;unfold ij at b;simp only [Bool.and_eq_true] at b;obtain ⟨⟨⟨_,g⟩,_⟩,_⟩:=b;unfold kI cF at g;simp only [Bool.and_eq_true,decide_eq_true_eq,List.all_eq_true] at g;refine ⟨by omega,by omega,fun x r=>?_⟩
  have:=g.2 x r;simpa using this
 refine ⟨o,m,⟨h.at_,a.post.bag,a.sok,h.live,h.ok,⟨f.1,by omega⟩,j.cell 6 (by decide),j.rows.2.2.2,i,b,fun k e x=>h.fm k e (.inl x),fun k e=>?_⟩⟩
 rcases e with e | e | e
 ·rw [e];exact d pp a.post.epp
 ·rw [e];exact d _ (a.post.egl _ (.inl rfl))
 ·exact d k (s k (.inr (.inr (.inr e)))).1
end
theorem lM (pp d:Nat) (b:Bool) (u:FrameMode) (w:World) (i:w.cell? ⟨pp,11,none⟩=some (.pointer (some ⟨d,0,none⟩))) (h:w.frozen? ⟨pp,11,none⟩=false) (a:w.cell? ⟨d,10,none⟩=some (.bool b)):
  CallsD Tryz.prog 45 #[.pointer (some ⟨pp,0,none⟩)] u w fun e u' f=>u'=u∧e= .returned (.tuple #[])∧f=if b then w.setCell ⟨pp,11,none⟩ (.pointer none) else w:=by
 have g:=Lib.hid (zD d b w a);go_enter_d Tryz.func45,Tryz.ntmps45
 go_wp2_with fail
 refine g.out.mono ?_;rintro e f ⟨rfl,rfl⟩
 cases b with
 | true=>
  go_wp2_with fail
  go_end0
  exact ⟨rfl,rfl⟩
 | false=>
  go_wp2_with fail
  go_end0
  exact ⟨rfl,rfl⟩
section
variable {E:Nat→Prop} {pp pb mb:Nat} {c:bX} {w:World} {q:Nat→Nat} {vr:Value} {S:bp} {recs:List UInt8} {vs:Value} {l:List (Option eH)}
theorem oi.left [K:Kn] {r g:Nat} {u z v:Value} {f a:List UInt8} {e:Nat} {t:aQ} {A:List Int} {s:Value} {n:Int} (h:oi w r g pp pb mb q vr u z v f a e S recs t A s n):∃y,Left (S,recs) y t.i (t.took true)∧Left y (cV S recs t) t.i (t.took false):=by
 have d:∀b,∀p∈t.took b,p∈(S.stayOf t.i).map (·.1):=fun b p k=>h.ok.sub p (by unfold aQ.act;exact List.mem_append.2 (.inr (ob k)));have B:(S.stayOf t.i).length≤10:=dk h.sok.ok t.i;obtain ⟨_,m,_,o,_⟩:=kS (x:=(S,recs)) (gs:=t.took true) (fs:=t.took false) h.sok h.live (by have:=kF h.ok true;omega) (by have:=kF h.ok false;omega) (jg (iu h.ok _)) (d _) (d _) (fun p i j=>mn h.ok i j);exact ⟨_,m,o⟩
theorem bQ.c11 [K:Kn] (h:bQ E pp pb mb c w q vr S recs vs l):w.cell? ⟨pp,11,none⟩=some K.tk∧w.frozen? ⟨pp,11,none⟩=false:=⟨h.post.cell11,h.post.froz 11⟩
def tv [K:Kn] (E:Nat→Prop) (pp pb mb:Nat) (c:bX) (w:World) (q:Nat→Nat) (vr:Value) (S:bp) (recs:List UInt8) (vs:Value) (l:List (Option eH)) (x:iJ) (w':World):Prop:=
 ∃q' vr',@bQ (Kn.mk (iQ K (cV S recs x.t).1 x.t.i (nt S x.t c.waits)).D0 (cV S recs x.t).1.items.length (.pointer none)) E pp pb mb c w' q' vr' (cV S recs x.t).1 (cV S recs x.t).2 vs l∧(∀k,ee w' pb mb q' vr' (cV S recs x.t).1 vs l k→ee w pb mb q vr S vs l k∨w.heap.size≤k)∧aH (fun k=>k=pp∨x.own k∨ee w pb mb q vr S vs l k) w w'
theorem tv.of [K:Kn] {x:iJ} {w1:World} (a:bQ E pp pb mb c w q vr S recs vs l) (h:hY E pp pb mb w q vr S vs l x) (m:mJ S) (o:lD x.tb x.ch pp pb mb q vr x.va x.vu x.vl (S.mailOf x.t.i).frm (S.mailOf x.t.i).body S recs x.t c.waits w w1):
  w1.cell? ⟨pp,11,none⟩=some (.pointer (some ⟨x.tb,0,none⟩))∧w1.frozen? ⟨pp,11,none⟩=false∧w1.cell? ⟨x.tb,10,none⟩=some (.bool true)∧tv E pp pb mb c w q vr S recs vs l x (w1.setCell ⟨pp,11,none⟩ (.pointer none)):=by
 obtain ⟨F,n,p⟩:=h.endIn a m;obtain ⟨y,_,r⟩:=p.left;obtain ⟨D,⟨u,f,j,s⟩,g⟩:=o;obtain ⟨i,t⟩:=bQ.bagged (D':=(iQ K (cV S recs x.t).1 x.t.i (nt S x.t c.waits)).D0) (n':=(cV S recs x.t).1.items.length) a j g (fun k e z=>z.elim (fun z=>h.fe k z e) (fun z=>a.post.eb k e z)) (fun k e z=>z.elim (fun z=>h.fm k z (.inr (.inl e))) (fun z=>(a.post.sd k e).2 z)) (fun n y e k z v=>v.elim (fun v=>h.fm k v (.inr (.inr ⟨n,y,e,z⟩))) (fun v=>(a.ok n y e).fb k z v)) s r.ok;obtain ⟨b,d⟩:=bQ.c11 (K:=(Kn.mk (iQ K (cV S recs x.t).1 x.t.i (nt S x.t c.waits)).D0 (cV S recs x.t).1.items.length K.tk)) i;obtain ⟨A,B,C⟩:=bQ.retalk (K:=(Kn.mk (iQ K (cV S recs x.t).1 x.t.i (nt S x.t c.waits)).D0 (cV S recs x.t).1.items.length K.tk)) i (.pointer none);refine ⟨b.trans (by show some K.tk=_;rw [h.tk]),d,by rw [Lib.cell_of_heap D];rfl,u,f,A,fun k e=>t k (B k e),(g.mono (fun k _ e=>e.elim (fun e=> .inr (.inl e)) (fun e=> .inr (.inr (.inl e))))).trans C (fun k _ e=> .inl e)⟩
theorem J0 [K:Kn] {x:iJ} (d:bQ E pp pb mb c w q vr S recs vs l) (h:hY E pp pb mb w q vr S vs l x) (i:mJ S):
  Calls Tryz.prog 21 #[.pointer (some ⟨pp,0,none⟩)] w fun e y=>e= .returned (.int .i64 0)∧tv E pp pb mb c w q vr S recs vs l x y:=by
 have g:=d.post.cell11;rw [h.tk] at g;obtain ⟨z,n,k⟩:=h.endIn d i;have o:=Lib.hid (BS k);have r:Hid (∀a,lD x.tb x.ch pp pb mb q vr x.va x.vu x.vl (S.mailOf x.t.i).frm (S.mailOf x.t.i).body S recs x.t c.waits w a→_):=Lib.hid (fun a b=>tv.of d h i b);clear k h d i;go_enter_defers Tryz.func21,Tryz.ntmps21
 go_wp2_with fail
 refine o.out.mono ?_;rintro e a ⟨rfl,b⟩;obtain ⟨s,t,v,j⟩:=r.out a b;have m:=Lib.hid j;have p:=Lib.hid (fun u=>lM pp x.tb true u a s t v);clear b j;go_wp2_with fail
 refine leaves_cons (f:=45) (args:=#[.pointer (some ⟨pp,0,none⟩)]) (by simp) (by simp [go_sem]) ?_;refine (p.out .returning).mono ?_;rintro e u' A ⟨rfl,rfl,rfl⟩;exact ⟨.int .i64 0,by simp [results,Tryz.results21,go_sem],rfl,m.out⟩
end
section
variable {E:Nat→Prop} {pp pb mb:Nat} {c:bX} {w:World} {q:Nat→Nat} {vr:Value} {S:bp} {recs:List UInt8} {vs:Value} {l:List (Option eH)}
def jM (S:bp) (i:Nat):aQ:=⟨i,0,S.stayOf i,[],[]⟩
theorem uL (S:bp) (i:Nat):dC (S.stayOf i) (jM S i):=by
 have e:(jM S i).act=(S.stayOf i).map (·.1):=by
  rw [lG (by show 0≠6;omega)];simp [jM]
 refine ⟨by show 0≤6;omega,(fun h=>by cases h),?_,fun x d=>by rw [e] at d;exact d,by rw [e,List.length_map];exact Nat.le_refl _,fun x d=>by simpa [jM] using d⟩
 rw [e];exact (rX _ _).imp fun {a b} h=>by omega
def D3 [K:Kn] (E:Nat→Prop) (pp pb mb:Nat) (c:bX) (w:World) (q:Nat→Nat) (vr:Value) (S:bp) (recs:List UInt8) (vs:Value) (l:List (Option eH)) (e:Ending) (w':World):Prop:=
 ((∀i∈S.live,(S.time:Int) < (bV S i).1)∧e= .returned (.tuple #[.int .i64 0,.int .i64 5])∧Below w.heap.size w w')∨
 ∃(i:Nat) (x:iJ),i∈S.live∧x.t=jM S i∧e= .returned (.tuple #[.int .i64 ((i:Int)+1),.int .i64 0])∧@bQ (Kn.mk K.D0 K.n0 (.pointer (some ⟨x.tb,0,none⟩))) E pp pb mb c w' q vr S recs vs l∧@hY (Kn.mk K.D0 K.n0 (.pointer (some ⟨x.tb,0,none⟩))) E pp pb mb w' q vr S vs l x∧(∀k,ee w' pb mb q vr S vs l k→ee w pb mb q vr S vs l k)∧(∀k,x.own k→w.heap.size≤k)∧aH (fun k=>k=pp) w w'
theorem D3.of [K:Kn] {i a f B:Nat} {va:Value} {w1 g:World} (d:bQ E pp pb mb c w q vr S recs vs l) (h:i∈S.live) (r:(bV S i).1≤S.time) (C:w.heap.size≤B) (v:w1.ownsRow B 162 2 va (S.stayOf i).length (aR (S.stayOf i))) (b:Below w.heap.size w g) (t:w.heap.size≤w1.heap.size) (o:bR g a f pp pb va va (.slice none 0 0) (S.mailOf i).frm (S.mailOf i).body (S.stayOf i).length false (jM S i)) (u:w1.heap.size≤a) (p:w1.heap.size≤f):
  D3 E pp pb mb c w q vr S recs vs l (.returned (.tuple #[.int .i64 ((i:Int)+1),.int .i64 0])) (g.setCell ⟨pp,11,none⟩ (.pointer (some ⟨a,0,none⟩))):=by
 obtain ⟨x,j⟩:=d.below b;obtain ⟨y,m,n⟩:=x.retalk (.pointer (some ⟨a,0,none⟩))
 have own:∀k,lA a f va (.slice none 0 0) k→w.heap.size≤k:=fun k e=>by
  rcases e with e | e | e | e
  ·omega
  ·omega
  ·have:=(v.lt k e).1;omega
  ·cases e
 have s:=d.post.lt pp d.post.epp;refine .inr ⟨i,⟨a,f,va,va,.slice none 0 0,jM S i⟩,h,rfl,rfl,y,@hY.mk (Kn.mk K.D0 K.n0 (.pointer (some ⟨a,0,none⟩))) _ _ _ _ _ _ _ _ _ _ _ rfl (o.chg n (fun k e A=>by have:=own k e;omega)) h (uL S i) r (fun k e z=>by have:=own k e;have:=d.post.lt k z;omega) (fun k e z=>by have:=own k e;have:=d.olt (j k (m k z));omega),fun k e=>j k (m k e),own,(aH.below b:aH (fun k=>k=pp) w g).trans n (fun _ _ e=>e)⟩
theorem JW [K:Kn] (f:bQ E pp pb mb c w q vr S recs vs l) (ht:K.tk= .pointer none):
  Calls Tryz.prog 22 #[.pointer (some ⟨pp,0,none⟩)] w (D3 E pp pb mb c w q vr S recs vs l):=by
 have Q:=f.post.cell11;rw [ht] at Q;have c9:=f.post.cell9;have T:=f.keep.2.1.items;have HL:=Lib.hid (Bb 0 pb mb q vr S (bV S) w f.post.bag.inn f.post.bag.due f.keep.2.2 (by omega));have Z:=Lib.hid f;have a3:pp < w.heap.size:=f.post.lt pp f.post.epp
 have r:Hid (∀W:World,Below w.heap.size w W→W.cell? ⟨pp,11,none⟩=some (.pointer none)∧W.frozen? ⟨pp,11,none⟩=false∧W.cell? ⟨pp,9,none⟩=some (.pointer (some ⟨pb,0,none⟩))):=Lib.hid (fun W hb=>by
  obtain ⟨X,_⟩:=f.below hb;have a:=X.post.cell11;rw [ht] at a
  exact ⟨a,X.post.froz 11,X.post.cell9⟩)
 clear f T;go_enter Tryz.func22,Tryz.ntmps22;go_wp2_with fail
 refine HL.out.mono ?_;rintro e d ⟨t,U⟩;have y:=Lib.hid t;have C:w.heap.size≤d.heap.size:=t.size;clear t
 rcases U with ⟨i,hi,hd,a,x,rfl,hv⟩ | ⟨A,rfl⟩
 ·obtain ⟨b,o⟩:∃b:World,d.alloc (.cells #[.int .i64 ((i:Int)+1),.string (bs (S.mailOf i).frm),.slice a (S.stayOf i).length x,.string (bs (S.mailOf i).body)] 104)=b:=⟨_,rfl⟩;have G:Below d.heap.size d b:=by rw [←o];exact (Below.refl _ _).alloc (Nat.le_refl _) _
  have s:b.heap[d.heap.size]? =some (.cells #[.int .i64 ((i:Int)+1),.string (bs (S.mailOf i).frm),.slice a (S.stayOf i).length x,.string (bs (S.mailOf i).body)] 104 (0,0)):=by rw [←o];exact heap_alloc_new d _
  have m0:b.drew.cell? ⟨d.heap.size,0,none⟩=some (.int .i64 ((i:Int)+1)):=by show b.cell? _=_;rw [Lib.cell_of_heap s];rfl
  have m1:b.drew.cell? ⟨d.heap.size,1,none⟩=some (.string (bs (S.mailOf i).frm)):=by show b.cell? _=_;rw [Lib.cell_of_heap s];rfl
  have m2:b.drew.cell? ⟨d.heap.size,2,none⟩=some (.slice a (S.stayOf i).length x):=by show b.cell? _=_;rw [Lib.cell_of_heap s];rfl
  have m3:b.drew.cell? ⟨d.heap.size,3,none⟩=some (.string (bs (S.mailOf i).body)):=by show b.cell? _=_;rw [Lib.cell_of_heap s];rfl
  have v:b.drew.ownsRow w.heap.size 162 2 (.slice a (S.stayOf i).length x) (S.stayOf i).length (aR (S.stayOf i)):=ep hv fun _ _ e _=>ae G e;have a4:=dk Z.out.keep.2.2 i;have g:=Lib.hid (xk pp pb i w.heap.size (S.mailOf i).frm (S.mailOf i).body (.slice a (S.stayOf i).length x) (S.stayOf i) b.drew v (by omega));have F:Below w.heap.size w b.drew:=(y.out.trans (G.mono C)).drew;obtain ⟨_,_,d9⟩:=r.out b.drew F;have z:=Lib.hid F;have j:=Lib.hid s;have h:=Lib.hid o;have O:=Lib.hid v;have u:w.heap.size≤b.drew.heap.size:=F.size;have a0:d.heap.size < b.drew.heap.size:=ah s;clear G s o hv v F;obtain ⟨fr,m⟩:∃fr,(S.mailOf i).frm=fr:=⟨_,rfl⟩;obtain ⟨bo,k⟩:∃bo,(S.mailOf i).body=bo:=⟨_,rfl⟩;obtain ⟨ln,n⟩:∃ln,(S.stayOf i).length=ln:=⟨_,rfl⟩;rw [m] at m1 g h j;rw [k] at m3 g h j;rw [n] at m2 g h j;have J:=Lib.hid m;have I:=Lib.hid k;have L:=Lib.hid n;rw [m,k,n];clear m k n;go_wp2_with fail
  rw [h.out];go_wp2_with fail
  go_region_law (first
   | (go_simp;go_at_call 48;refine g.out.mono ?_;rintro e Y ⟨tb,ch,rfl,D,V,R,p⟩;obtain ⟨a1,a2,_⟩:=r.out Y (z.out.trans (p.mono u));have x3:=ae p j.out;have N:=Lib.hid D;have H:=Lib.hid (z.out.trans (p.mono u));have P:=Lib.hid x3;clear D p x3;dsimp only))
  all_goals
   have HF:=Lib.hid (D3.of (B:=w.heap.size) (w1:=b.drew) (va:= .slice a (S.stayOf i).length x) Z.out hi hd (Nat.le_refl _) O.out H.out u (by rw [J.out,I.out,L.out];exact N.out) V R)
   have y0:(Y.setCell ⟨pp,11,none⟩ (.pointer (some ⟨tb,0,none⟩))).cell? ⟨d.heap.size,0,none⟩=some (.int .i64 ((i:Int)+1)):=by
    rw [Lib.cell_of_heap (aP ((aL.refl pp Y).setCell _) P.out (by omega))];rfl
   go_wp2_with fail
   go_ret2
   exact HF.out
 ·have M:=Lib.hid A;clear A;go_wp2_with fail
  go_ret2
  exact .inl ⟨M.out,rfl,y.out.alloc C _⟩
end
section
variable {E:Nat→Prop} {pp pb mb:Nat} {c:bX} {w:World} {q:Nat→Nat} {vr:Value} {S:bp} {recs:List UInt8} {vs:Value} {l:List (Option eH)}
theorem yy [K:Kn] {x:iJ} (g:bQ E pp pb mb c w q vr S recs vs l) (h:hY E pp pb mb w q vr S vs l x) (j:mJ S) (A:x.t.said=6) (a:Nat) (z:200≤a∧a≤599):
  Calls Tryz.prog 33 #[.pointer (some ⟨pp,0,none⟩),.int .i64 (a:Int)] w fun e B=>e= .returned (.tuple #[.string ⟨#[]⟩,.int .i64 0])∧tv E pp pb mb c w q vr S recs vs l x B:=by
 have i:=g.post.cell11;rw [h.tk] at i;obtain ⟨F,n,m⟩:=h.endIn g j;have p:=Lib.hid (GX m A a (by omega));have s:Hid (∀b,lD x.tb x.ch pp pb mb q vr x.va x.vu x.vl (S.mailOf x.t.i).frm (S.mailOf x.t.i).body S recs x.t c.waits w b→_):=Lib.hid (fun b d=>tv.of g h j d);have C:¬(a:Int) < 200:=by omega
 have D:¬(599:Int) < (a:Int):=by omega
 clear m h g j z;go_enter_defers Tryz.func33,Tryz.ntmps33
 go_wp2_with fail
 refine p.out.mono ?_;rintro e b ⟨rfl,d⟩;obtain ⟨t,v,y,k⟩:=s.out b d;have o:=Lib.hid k;have r:=Lib.hid (fun u=>lM pp x.tb true u b t v y);clear d k;go_wp2_with fail
 refine leaves_cons (f:=45) (args:=#[.pointer (some ⟨pp,0,none⟩)]) (by simp) (by simp [go_sem]) ?_;refine (r.out .returning).mono ?_;rintro e u' G ⟨rfl,rfl,rfl⟩;exact ⟨.tuple #[.string ⟨#[]⟩,.int .i64 0],by simp [results,Tryz.results33,go_sem],rfl,o.out⟩
def IY [K:Kn] (E:Nat→Prop) (pp pb mb:Nat) (c:bX) (w:World) (q:Nat→Nat) (vr:Value) (S:bp) (recs:List UInt8) (vs:Value) (l:List (Option eH)) (x:iJ) (t':aQ) (w':World):Prop:=
 ∃x':iJ,x'.t=t'∧bQ E pp pb mb c w' q vr S recs vs l∧hY E pp pb mb w' q vr S vs l x'∧(∀k,ee w' pb mb q vr S vs l k→ee w pb mb q vr S vs l k)∧(∀k,x'.own k→x.own k∨w.heap.size≤k)∧aH x.own w w'
theorem hY.hearOk [K:Kn] {x:iJ} (a:bQ E pp pb mb c w q vr S recs vs l) (h:hY E pp pb mb w q vr S vs l x) (i:x.t.said≠6):Gg w pp (S.stayOf x.t.i).length (cQ c) (S.mailOf x.t.i).frm (S.mailOf x.t.i).body (mD (S.mailOf x.t.i).body) x.t:=by
 obtain ⟨r,s,t,u,e,p⟩:=a.post.set;obtain ⟨m,f⟩:=a.post.glo.len;have d:=bq h.live;have b:dQ (S.mailOf x.t.i):=by rw [kd d];exact (a.keep.2.2.sz _ (List.getElem_mem d)).1
 have n:=AN e.may;have g:=h.ok.room;rw [lG i,List.length_append,List.length_map,List.length_map,List.length_append] at g;have o:=dk a.keep.2.2 x.t.i;refine ⟨by rw [sT];exact e.cell 0 (by decide),by omega,by have:=b.2.2.1;omega,BH _ b.2.2.2.2.2,zH _ m w f b.2.2.2.2.2,fun y k=>?_,⟨by omega,by omega⟩,⟨by omega,by omega⟩,h.ok.una⟩
 have:=h.ok.mem y (List.mem_append.2 (.inl k));unfold bp.stayOf stay at this;obtain ⟨j,_,rfl⟩:=List.mem_map.1 this;have:=nQ b.2.2.2.2.1 j;show ((S.mailOf x.t.i).tos.getD j []).length≤1000;omega
theorem IY.of [K:Kn] {x:iJ} {y:aQ×List UInt8} {e:Ending} {w1:World} (j:bQ E pp pb mb c w q vr S recs vs l) (h:hY E pp pb mb w q vr S vs l x) (d:y.1.i=x.t.i) (i:dC (S.stayOf x.t.i) y.1) (r:fQ x.tb x.ch pp pb x.va x.vl (S.mailOf x.t.i).frm (S.mailOf x.t.i).body (S.stayOf x.t.i).length w y e w1):
  w1.cell? ⟨pp,11,none⟩=some (.pointer (some ⟨x.tb,0,none⟩))∧w1.frozen? ⟨pp,11,none⟩=false∧w1.cell? ⟨x.tb,10,none⟩=some (.bool false)∧IY E pp pb mb c w q vr S recs vs l x y.1 w1:=by
 obtain ⟨_,b,a,p,n,s⟩:=r;obtain ⟨o,m⟩:=j.chg n (fun k e z=>h.fe k z e) (fun k e z=>h.fm k z e);obtain ⟨f,g⟩:=o.c11
 have own:∀k,lA x.tb x.ch x.va a k→x.own k∨w.heap.size≤k:=fun k e=>by
  rcases e with e | e | e | e
  ·exact .inl (.inl e)
  ·exact .inl (.inr (.inl e))
  ·exact .inl (.inr (.inr (.inl e)))
  ·exact (s k e).imp (fun e=> .inr (.inr (.inr e))) id
 refine ⟨f.trans (by rw [h.tk]),g,p.cell 10,⟨x.tb,x.ch,x.va,b,a,y.1⟩,rfl,o,⟨h.tk,?_,?_,?_,?_,fun k e z=>(own k e).elim (fun e=>h.fe k e z) (fun e=>by have:=j.post.lt k z;omega),fun k e z=>(own k e).elim (fun e=>h.fm k e (m k z)) (fun e=>by have:=j.olt (m k z);omega)⟩,m,own,n⟩
 ·show bR w1 x.tb x.ch pp pb x.va b a (S.mailOf y.1.i).frm (S.mailOf y.1.i).body (S.stayOf y.1.i).length false y.1;rw [d];exact p
 ·show y.1.i∈S.live;rw [d];exact h.live
 ·show dC (S.stayOf y.1.i) y.1;rw [d];exact i
 ·show (bV S y.1.i).1≤S.time;rw [d];exact h.due
theorem Kh (t:aQ):t.ask.1.i=t.i:=by
 unfold aQ.ask
 split
 ·rfl
 ·split <;> rfl
theorem GY (t:aQ) (b e d:List UInt8) (a:Nat):(t.hear b e d a).1.i=t.i:=by
 unfold aQ.hear
 repeat' split
 all_goals first | rfl | exact Kh _
theorem Gp [K:Kn] {x:iJ} (g:bQ E pp pb mb c w q vr S recs vs l) (h:hY E pp pb mb w q vr S vs l x) (j:x.t.said≠6) (a:Nat) (y:200≤a∧a≤599):
  Calls Tryz.prog 33 #[.pointer (some ⟨pp,0,none⟩),.int .i64 (a:Int)] w fun e z=>e= .returned (.tuple #[.string (bs (x.t.hear (cQ c) (S.mailOf x.t.i).frm (mD (S.mailOf x.t.i).body) (a / 100)).2),.int .i64 0])∧IY E pp pb mb c w q vr S recs vs l x (x.t.hear (cQ c) (S.mailOf x.t.i).frm (mD (S.mailOf x.t.i).body) (a / 100)).1 z:=by
 have i:=g.post.cell11;rw [h.tk] at i;have k:=Lib.hid (J1 h.at_ (cQ c) (mD (S.mailOf x.t.i).body) (h.hearOk g j) (by have:=h.ok.said;omega) a (by omega));have m:Hid (∀e b,fQ x.tb x.ch pp pb x.va x.vl (S.mailOf x.t.i).frm (S.mailOf x.t.i).body (S.stayOf x.t.i).length w (x.t.hear (cQ c) (S.mailOf x.t.i).frm (mD (S.mailOf x.t.i).body) (a / 100)) e b→_):=Lib.hid (fun e b d=>IY.of g h (GY _ _ _ _ _) (Ei h.ok j _ _ _ _) d);obtain ⟨Y,o⟩:∃Y,x.t.hear (cQ c) (S.mailOf x.t.i).frm (mD (S.mailOf x.t.i).body) (a / 100)=Y:=⟨_,rfl⟩;rw [o] at k m ⊢;have A:¬(a:Int) < 200:=by omega
 have B:¬(599:Int) < (a:Int):=by omega
 clear h g j y o;go_enter_defers Tryz.func33,Tryz.ntmps33
 go_wp2_with fail
 refine k.out.mono ?_;intro e b d;obtain ⟨s,t,v,n⟩:=m.out e b d;have p:=Lib.hid n;obtain ⟨rfl,_⟩:=d;have r:=Lib.hid (fun u=>lM pp x.tb false u b s t v);clear n;go_wp2_with fail
 refine leaves_cons (f:=45) (args:=#[.pointer (some ⟨pp,0,none⟩)]) (by simp) (by simp [go_sem]) ?_;refine (r.out .returning).mono ?_;rintro e u' C ⟨rfl,rfl,rfl⟩;exact ⟨.tuple #[.string (bs Y.2),.int .i64 0],by simp [results,Tryz.results33,go_sem],rfl,p.out⟩
end
structure oj (S S':bp):Prop where
 len:S.items.length≤S'.items.length
 time:S'.time=S.time
 mail:∀j,j < S.items.length→S'.mailOf j=S.mailOf j
 stay:∀j,j < S.items.length→S'.stayOf j=S.stayOf j
 new:∀j,S.items.length≤j→j < S'.items.length→(S'.mailOf j).time=S.time
theorem oj.refl (S:bp):oj S S:=⟨Nat.le_refl _,rfl,fun _ _=>rfl,fun _ _=>rfl,fun j a b=>by omega⟩
theorem oj.trans {S S' b:bp} (h:oj S S') (a:oj S' b):oj S b:=
 ⟨Nat.le_trans h.len a.len,a.time.trans h.time,fun j c=>(a.mail j (Nat.lt_of_lt_of_le c h.len)).trans (h.mail j c),fun j c=>(a.stay j (Nat.lt_of_lt_of_le c h.len)).trans (h.stay j c),fun j e f=>by
  by_cases d:j < S'.items.length
  ·rw [a.mail j d];exact h.new j e d
  ·exact (a.new j (by omega) f).trans h.time⟩
theorem oj.plus (S:bp) (m:aX) (b:m.time=S.time):oj S (S.plus m):=
 ⟨by rw [dv];omega,b,fun j a=>je a,fun j a=>jU a,fun j d c=>by
  rw [dv] at c;obtain rfl:j=S.items.length:=by omega
  rw [dN];exact b⟩
theorem lP (c:bX) (s:bG) (S:bp) (a b:List UInt8) (d:Bool):oj S (aO c s S a b d).2.1:=by
 unfold aO
 split
 ·split
  ·unfold dn kz
   split
   ·split
    ·exact oj.refl _
    ·split
     ·exact oj.refl _
     ·split
      ·exact oj.plus S _ rfl
      ·exact oj.refl _
   ·exact oj.refl _
  ·exact oj.refl _
 ·exact oj.refl _
theorem FX (c:bX) (x:bG×bp×List UInt8×List UInt8) (b:UInt8):oj x.2.1 (gQ c x b).2.1:=by
 unfold gQ
 split
 ·exact oj.refl _
 ·split
  ·exact oj.refl _
  ·exact lP _ _ _ _ _ _
theorem xH (c:bX):∀(a:List UInt8) (x:bG×bp×List UInt8×List UInt8),oj x.2.1 (cL c x a).2.1
 | [],_=>oj.refl _
 | b::r,x=>(FX c x b).trans (xH c r (gQ c x b))
section
variable {S S':bp}
theorem oj.due [Kn] (h:oj S S') {i:Nat} (a:i < S.items.length):bV S' i=bV S i:=by unfold bV;rw [h.mail i a]
theorem oj.live (h:oj S S') {i:Nat} (a:i < S.items.length):i∈S'.live ↔ i∈S.live:=by
 rw [jT,jT,h.stay i a];have:=h.len;exact ⟨fun x=>⟨a,x.2⟩,fun x=>⟨by omega,x.2⟩⟩
theorem mJ.kin [Kn] (h:mJ S) (a:oj S S') (f:Kn.n0≤S.items.length) (d:S.time≤1000000000):mJ S':=fun i b=>by
 by_cases c:i < S.items.length
 ·rw [a.due c];exact h i ((a.live c).1 b)
 ·have e:bV S' i=((S.time:Int),0):=by
   unfold bV;rw [if_neg (by omega),a.new i (by omega) (bq b)]
  rw [e];show (0:Int)≤0∧(0:Int)≤(S.time:Int)∧(S.time:Int)≤10000000000;omega
end
section
variable [K:Kn] {E B:Nat→Prop} {pp pb mb:Nat} {w w':World} {q q':Nat→Nat} {vr vr':Value} {S S':bp} {vs vs':Value} {l l':List (Option eH)} {x:iJ}
theorem hY.kin (h:hY E pp pb mb w q vr S vs l x) (a:oj S S') (d:aH B w w') (c:∀k,x.own k→¬B k) (f:∀k,ee w' pb mb q' vr' S' vs' l' k→ee w pb mb q vr S vs l k∨w.heap.size≤k):hY E pp pb mb w' q' vr' S' vs' l' x:=by
 have b:=bq h.live;refine ⟨h.tk,?_,(a.live b).2 h.live,by rw [a.stay _ b];exact h.ok,by rw [a.due b,a.time];exact h.due,h.fe,fun k e z=>(f k z).elim (h.fm k e) (fun z=>by have:=h.at_.lt e;omega)⟩
 rw [a.mail _ b,a.stay _ b];exact h.at_.chg d c
end
section
variable {S S':bp}
theorem iB.live {i:Nat} (h:iB S S') (a:i∈S'.live) (b:i < S.items.length):i∈S.live:=by
 obtain ⟨_,f⟩:=jT.1 a;refine zo fun e=>f ?_;refine List.eq_nil_iff_forall_not_mem.2 fun r d=>?_;have:=h.stay i b r d;rw [e] at this
 cases this
theorem mJ.later [Kn] (h:mJ S) (g:iB S S') (d:S'.Ok) (k:Kn.n0≤S.items.length):mJ S':=fun i f=>by
 by_cases b:i < S.items.length
 ·have e:bV S' i=bV S i:=by unfold bV;rw [g.mail i b]
  rw [e];exact h i (g.live f b)
 ·have a:=bq f;have e:bV S' i=(((S'.mailOf i).time:Int),0):=by unfold bV;rw [if_neg (by omega)]
  have j:dQ (S'.mailOf i):=by rw [kd a];exact (d.sz _ (List.getElem_mem a)).1
  have:=j.2.1;rw [e];show (0:Int)≤0∧(0:Int)≤((S'.mailOf i).time:Int)∧((S'.mailOf i).time:Int)≤10000000000;omega
theorem JD {a:List Int} (g:1≤a.length) (d:∀x∈a,1≤x∧x≤1000000000) {f:Int} (e:0≤f):1≤kH a f∧kH a f≤1000000000:=by
 unfold kH;have b:(if (a.length:Int) - 1 < f then a.length - 1 else f.toNat) < a.length:=by split <;> omega
 rw [List.getD_eq_getElem?_getD,List.getElem?_eq_getElem b];exact d _ (List.getElem_mem b)
end
section
variable [K:Kn] {E:Nat→Prop} {pp pb mb:Nat} {c:bX} {w:World} {q:Nat→Nat} {vr:Value} {S:bp} {recs:List UInt8} {vs:Value} {l:List (Option eH)} {x:iJ}
theorem o9 (f:bQ E pp pb mb c w q vr S recs vs l) (h:hY E pp pb mb w q vr S vs l x) (d:mJ S):iB S (cV S recs x.t).1∧oK (cV S recs x.t)∧(cV S recs x.t).1.time=S.time:=by
 obtain ⟨g,n,e⟩:=h.endIn f d;obtain ⟨y,b,a⟩:=e.left;exact ⟨b.later.trans a.later,a.ok,a.aft.time.trans b.aft.time⟩
theorem FD (d:bQ E pp pb mb c w q vr S recs vs l) (h:hY E pp pb mb w q vr S vs l x) (b:mJ S) (v:Value):@mJ (Kn.mk (iQ K (cV S recs x.t).1 x.t.i (nt S x.t c.waits)).D0 (cV S recs x.t).1.items.length v) (cV S recs x.t).1:=by
 obtain ⟨m,o,_⟩:=o9 d h b;obtain ⟨t,n,j⟩:=h.endIn d b;have f:=b.later m o.ok d.post.bag.kn;intro i a;have e:@bV (Kn.mk (iQ K (cV S recs x.t).1 x.t.i (nt S x.t c.waits)).D0 (cV S recs x.t).1.items.length v) (cV S recs x.t).1 i=if i=x.t.i then nt S x.t c.waits else bV (cV S recs x.t).1 i:=if_pos (bq a);rw [e]
 by_cases g:i=x.t.i
 ·rw [if_pos g];have k:=b _ h.live;have p:=h.due;have r:=JD j.wb.1 j.wb.2.2 k.1;have s:=d.keep.1;show 0≤(bV S x.t.i).2+1∧(bV S x.t.i).2+1≤(S.time:Int)+kH c.waits (bV S x.t.i).2∧(S.time:Int)+kH c.waits (bV S x.t.i).2≤10000000000;omega
 ·rw [if_neg g];exact f i a
theorem yk (b:bQ E pp pb mb c w q vr S recs vs l) (f:mJ S) (T:Nat) (e:T≤1000000000):iB S (dw c.life (⟨S.items,T⟩,recs) S.live).1∧mJ (dw c.life (⟨S.items,T⟩,recs) S.live).1∧oK (dw c.life (⟨S.items,T⟩,recs) S.live)∧(dw c.life (⟨S.items,T⟩,recs) S.live).1.time=T:=by
 have a:=lB (x:=((⟨S.items,T⟩:bp),recs)) ⟨b.sok.ok.time T,b.sok.led,e⟩ c.life (l:=S.live) (fun i a=>a) (gJ S) S.live.length (Nat.le_refl _);rw [List.take_length] at a;have d:=(CY S T).trans a.2.2.2;exact ⟨d,f.later d a.1.ok b.post.bag.kn,a.1,a.2.2.1⟩
end
def Kt (K:Kn) (E:Nat→Prop) (pp pb mb:Nat) (w:World) (q:Nat→Nat) (vr:Value) (S:bp) (vs:Value) (L:List (Option eH)):Option iJ→Prop
 | none=>K.tk= .pointer none
 | some x=>@hY K E pp pb mb w q vr S vs L x
def r7:Option iJ→Nat→Prop
 | none,_=>False
 | some x,k=>x.own k
def iC (E own:Nat→Prop) (pp:Nat) (c:bX) (w:World) (S:bp) (recs:List UInt8) (l:List (Option bG)) (tk:Option aQ) (d:Nat→Int×Int):Prop:=
 ∃(K:Kn) (pb mb:Nat) (q:Nat→Nat) (vr vs:Value) (L:List (Option eH)) (xo:Option iJ),@bQ K E pp pb mb c w q vr S recs vs L∧Kt K E pp pb mb w q vr S vs L xo∧@mJ K S∧L.map (Option.map (·.s))=l∧xo.map (·.t)=tk∧(∀i∈S.live,@bV K S i=d i)∧(∀k,ee w pb mb q vr S vs L k∨r7 xo k→own k)∧∀k,own k→k < w.heap.size∧¬E k
def oS (S S':bp) (d:Nat→Int×Int) (i:Nat):Int×Int:=if i < S.items.length then d i else (((S'.mailOf i).time:Int),0)
def mr (E own:Nat→Prop) (pp:Nat) (c:bX) (w:World) (S:bp) (recs:List UInt8) (l:List (Option bG)) (tk:Option aQ) (d:Nat→Int×Int) (w':World):Prop:=
 ∃own',iC E own' pp c w' S recs l tk d∧(∀k,own' k→own k∨w.heap.size≤k)∧aH (fun k=>k=pp∨own k) w w'
theorem zw {L:List (Option eH)} {n:Nat} {s:bG} (h:(L.map (Option.map (·.s)))[n]? =some (some s)):∃x,L[n]? =some (some x)∧x.s=s:=by
 rw [List.getElem?_map] at h
 cases e:L[n]? with
 | none=>rw [e] at h;cases h
 | some o=>
  rw [e] at h
  cases o with
  | none=>cases h
  | some x=>exact ⟨x,rfl,by simpa using h⟩
theorem nz (K:Kn) {E:Nat→Prop} {pp b a:Nat} {c:bX} {w:World} {q:Nat→Nat} {f:Value} {S:bp} {recs:List UInt8} {g:Value} {L:List (Option eH)} (h:@bQ K E pp b a c w q f S recs g L) {k:Nat} (e:ee w b a q f S g L k):k < w.heap.size∧¬E k:=⟨h.olt e,fun z=>h.eo z e⟩
theorem DV (K:Kn) {E:Nat→Prop} {pp b a:Nat} {w:World} {q:Nat→Nat} {f:Value} {S:bp} {g:Value} {L:List (Option eH)} {x:iJ} (h:@hY K E pp b a w q f S g L x):(∀k,x.own k→k < w.heap.size∧¬E k)∧(bV S x.t.i).1≤S.time:=⟨fun k e=>⟨bR.lt h.at_ e,h.fe k e⟩,h.due⟩
section
variable {E own B:Nat→Prop} {pp:Nat} {c:bX} {w w':World} {S:bp} {recs:List UInt8} {l:List (Option bG)} {tk:Option aQ} {d:Nat→Int×Int}
theorem iC.lt (h:iC E own pp c w S recs l tk d) {k:Nat} (e:own k):k < w.heap.size:=by
 obtain ⟨K,p,o,q,r,s,L,t,b,f,g,i,j,m,n,a⟩:=h;exact (a k e).1
theorem iC.off (h:iC E own pp c w S recs l tk d) {k:Nat} (e:own k):¬E k:=by
 obtain ⟨K,p,o,q,r,s,L,t,b,f,g,i,j,m,n,a⟩:=h;exact (a k e).2
theorem iC.elt (h:iC E own pp c w S recs l tk d) {k:Nat} (e:E k):k < w.heap.size:=by
 obtain ⟨K,p,o,q,r,s,L,t,a,b,f,g,i,j,m,n⟩:=h;exact @dR.lt K _ _ _ _ _ _ _ _ _ _ _ _ a.post k e
theorem iC.epp (h:iC E own pp c w S recs l tk d):E pp:=by
 obtain ⟨K,n,m,q,o,p,L,r,a,b,e,f,g,i,j,k⟩:=h;exact a.post.epp
theorem iC.glo (h:iC E own pp c w S recs l tk d):iR w:=by
 obtain ⟨K,n,m,q,o,p,L,r,a,b,e,f,g,i,j,k⟩:=h;exact a.post.glo
theorem iC.may (h:iC E own pp c w S recs l tk d):ij c=true:=by
 obtain ⟨K,o,n,q,v,x,L,y,a,e,f,g,i,j,k,m⟩:=h;obtain ⟨r,s,t,u,b,p⟩:=a.post.set;exact b.may
theorem iC.len (h:iC E own pp c w S recs l tk d):l.length≤100:=by
 obtain ⟨K,n,m,q,o,p,L,r,a,e,f,b,g,i,j,k⟩:=h;rw [←b,List.length_map];exact a.len
theorem iC.sok (h:iC E own pp c w S recs l tk d):oK (S,recs):=by
 obtain ⟨K,n,m,q,o,p,L,r,a,b,e,f,g,i,j,k⟩:=h;exact a.sok
theorem iC.inv (h:iC E own pp c w S recs l tk d) {n:Nat} {s:bG} (a:l[n]? =some (some s)):gM c s S recs:=by
 obtain ⟨K,r,p,q,t,u,L,v,b,g,i,e,j,k,m,o⟩:=h;rw [←e] at a;obtain ⟨x,f,rfl⟩:=zw a;exact (b.ok n x f).inv
theorem iC.talk {t:aQ} (h:iC E own pp c w S recs l (some t) d):t.i∈S.live∧dC (S.stayOf t.i) t∧(d t.i).1≤S.time:=by
 obtain ⟨K,p,o,q,r,s,L,g,i,a,j,k,b,f,m,n⟩:=h
 cases g with
 | none=>cases b
 | some x=>
  have e:x.t=t:=by simpa using b
  subst e;exact ⟨a.live,a.ok,by rw [←f _ a.live];exact a.due⟩
theorem iC.laters (h:iC E own pp c w S recs l tk d):(∀T,S.time≤T∧T≤1000000000→iB S (dw c.life (⟨S.items,T⟩,recs) S.live).1∧(dw c.life (⟨S.items,T⟩,recs) S.live).1.time=T)∧∀t,tk=some t→iB S (cV S recs t).1∧(cV S recs t).1.time=S.time:=by
 obtain ⟨K,y,v,q,z,A,L,o,b,g,f,p,a,r,s,u⟩:=h;refine ⟨fun T i=>?_,fun t e=>?_⟩
 ·obtain ⟨m,_,_,n⟩:=yk b f T i.2;exact ⟨m,n⟩
 ·rw [e] at a
  cases o with
  | none=>cases a
  | some x=>
   have e:x.t=t:=by simpa using a
   subst e;obtain ⟨j,_,k⟩:=o9 b g f;exact ⟨j,k⟩
theorem iC.chg (h:iC E own pp c w S recs l tk d) (b:aH B w w') (t:∀k,E k→¬B k) (i:∀k,own k→¬B k):iC E own pp c w' S recs l tk d:=by
 obtain ⟨K,y,u,q,z,A,L,m,n,f,o,p,r,s,a,g⟩:=h;obtain ⟨v,j⟩:=n.chg b t (fun k e=>i k (a k (.inl e)));refine ⟨K,y,u,q,z,A,L,m,v,?_,o,p,r,s,fun k e=>a k (e.imp (j k) id),fun k e=>⟨Nat.lt_of_lt_of_le (g k e).1 b.size,(g k e).2⟩⟩
 cases m with
 | none=>exact f
 | some x=>exact hY.kin f (oj.refl S) b (fun k e=>i k (a k (.inr e))) (fun k e=> .inl (j k e))
theorem iC.below (h:iC E own pp c w S recs l tk d) (a:Below w.heap.size w w'):iC E own pp c w' S recs l tk d:=h.chg (aH.below a:aH (fun _=>False) w w') (fun _ _ e=>e) (fun _ _ e=>e)
theorem iC.recv (h:iC E own pp c w S recs l tk d) (n:Nat) {s:bG} (J:l[n]? =some (some s)) (a:List UInt8) (u:a.length≤1048576):
  Calls Tryz.prog 14 #[.pointer (some ⟨pp,0,none⟩),.int .i64 (n:Int),.string (bs a)] w fun e w'=>e= .returned (.tuple #[.string (bs (cL c (s,S,recs,[]) a).2.2.2),.int .i64 0])∧mr E own pp c w (cL c (s,S,recs,[]) a).2.1 (cL c (s,S,recs,[]) a).2.2.1 (l.set n (if (cL c (s,S,recs,[]) a).1.over then none else some (cL c (s,S,recs,[]) a).1)) tk (oS S (cL c (s,S,recs,[]) a).2.1 d) w':=by
 have f:=h.may;obtain ⟨K,F,D,q,X,G,L,j,r,m,P,I,Q,R,o,T⟩:=h;rw [←I] at J;obtain ⟨x,V,rfl⟩:=zw J;have b:=xH c a (x.s,S,recs,[]);refine (FK r n V f a u).mono ?_;rintro e Y ⟨rfl,M,g,N,H,v,A,C⟩;obtain ⟨y,O⟩:∃y,cL c (x.s,S,recs,[]) a=y:=⟨_,rfl⟩;rw [O] at v A b ⊢
 have W:∀k,r7 j k→¬ee w F D q X S G L k:=fun k e=>by
  cases j with
  | none=>cases e
  | some z=>exact m.fm k e
 have t:=r.post.bag.kn;refine ⟨rfl,fun k=>ee Y F D M g y.2.1 G (L.set n (if y.1.over then none else some ⟨x.sb,x.ch,N,H,y.1⟩)) k∨r7 j k,⟨K,F,D,M,g,G,_,j,v,?_,P.kin b t r.keep.1,?_,Q,fun i U=>?_,fun k e=>e,fun k e=>?_⟩,fun k e=>?_,C.mono (fun k _ e=> .inr (o k (.inl e)))⟩
 ·cases j with
  | none=>exact m
  | some z=>exact hY.kin m b C (fun k e=>m.fm k e) A
 ·rw [List.map_set,I]
  congr 1
  cases y.1.over <;> rfl
 ·unfold oS
  by_cases p:i < S.items.length
  ·rw [if_pos p,b.due p];exact R i ((b.live p).1 U)
  ·rw [if_neg p];unfold bV;rw [if_neg (by omega)]
 ·rcases e with e | e
  ·exact nz _ v e
  ·have:=T k (o k (.inr e));exact ⟨Nat.lt_of_lt_of_le this.1 C.size,this.2⟩
 ·rcases e with e | e
  ·exact (A k e).imp (fun e=>o k (.inl e)) id
  ·exact .inl (o k (.inr e))
theorem iC.conn (h:iC E own pp c w S recs l tk d) (a:Int) (y:0≤a) (H:a≤4294967295) (I:l.length < 100):
  Calls Tryz.prog 13 #[.pointer (some ⟨pp,0,none⟩),.int .i64 a] w fun e w'=>e= .returned (.tuple #[.int .i64 (l.length:Int),.string (bs (mX c)),.int .i64 0])∧mr E own pp c w S recs (l++[some (dI c a)]) tk d w':=by
 obtain ⟨K,o,n,q,p,J,L,f,r,g,C,s,D,F,i,G⟩:=h;have b:L.length=l.length:=by rw [←s,List.length_map]
 refine (EI r a y H (by rw [b];exact I)).mono ?_;rintro e M ⟨rfl,vs',sb,v,A,t,u,m⟩;rw [b]
 have j:∀k,r7 f k→¬(k=pp∨ee w o n q p S J L k):=fun k e=>by
  cases f with
  | none=>cases e
  | some z=>exact fun x=>x.elim (fun x=>g.fe k e (by rw [x];exact r.post.epp)) (g.fm k e)
 refine ⟨rfl,fun k=>ee M o n q p S vs' (L++[some ⟨sb,v,A,.slice none 0 0,dI c a⟩]) k∨r7 f k,⟨K,o,n,q,p,vs',_,f,t,?_,C,?_,D,F,fun k e=>e,fun k e=>?_⟩,fun k e=>?_,m.mono (fun k _ e=>e.imp id (fun e=>i k (.inl e)))⟩
 ·cases f with
  | none=>exact g
  | some z=>exact hY.kin g (oj.refl S) m j u
 ·rw [List.map_append,s];rfl
 ·rcases e with e | e
  ·exact nz _ t e
  ·have:=G k (i k (.inr e));exact ⟨Nat.lt_of_lt_of_le this.1 m.size,this.2⟩
 ·rcases e with e | e
  ·exact (u k e).imp (fun e=>i k (.inl e)) id
  ·exact .inl (i k (.inr e))
theorem iC.close (h:iC E own pp c w S recs l tk d) (n:Nat) {s:bG} (t:l[n]? =some (some s)):
  Calls Tryz.prog 34 #[.pointer (some ⟨pp,0,none⟩),.int .i64 (n:Int)] w fun e w'=>e= .returned (.int .i64 0)∧mr E own pp c w S recs (l.set n none) tk d w':=by
 obtain ⟨K,m,j,q,o,p,L,a,y,f,A,r,C,D,b,F⟩:=h;rw [←r] at t;obtain ⟨x,G,rfl⟩:=zw t;refine (yK y n G).mono ?_;rintro e H ⟨rfl,u,v,i⟩
 have g:∀k,r7 a k→¬ee w m j q o S p L k:=fun k e=>by
  cases a with
  | none=>cases e
  | some z=>exact f.fm k e
 refine ⟨rfl,fun k=>ee H m j q o S p (L.set n none) k∨r7 a k,⟨K,m,j,q,o,p,_,a,u,?_,A,?_,C,D,fun k e=>e,fun k e=>?_⟩,fun k e=>?_,i.mono (fun k _ e=> .inr (b k (.inl e)))⟩
 ·cases a with
  | none=>exact f
  | some z=>exact hY.kin f (oj.refl S) i g (fun k e=> .inl (v k e))
 ·rw [List.map_set,r];rfl
 ·rcases e with e | e
  ·exact nz _ u e
  ·have:=F k (b k (.inr e));exact ⟨Nat.lt_of_lt_of_le this.1 i.size,this.2⟩
 ·rcases e with e | e
  ·exact .inl (b k (.inl (v k e)))
  ·exact .inl (b k (.inr e))
theorem iC.kept (h:iC E own pp c w S recs l tk d):Calls Tryz.prog 17 #[.pointer (some ⟨pp,0,none⟩)] w fun e w'=>e= .returned (.tuple #[.string (bs recs),.int .i64 0])∧w=w':=by
 obtain ⟨K,o,n,q,p,r,L,s,a,b,f,g,i,j,k,m⟩:=h;exact AR a.post
theorem iC.queue (h:iC E own pp c w S recs l tk d):Calls Tryz.prog 10 #[.pointer (some ⟨pp,0,none⟩)] w fun e w'=>∃v a,e= .returned (.tuple #[v,.int .i64 0])∧iT w.heap.size w' v a∧a.map (·.1)=gA S.items∧Below w.heap.size w w':=by
 obtain ⟨K,p,o,q,r,s,L,t,b,f,g,i,j,k,m,n⟩:=h;exact yd b.post b.keep.2.2 (by have:=b.keep.2.1.items;omega)
theorem iC.tick (h:iC E own pp c w S recs l none d) (T:Nat) (m:S.time≤T∧T≤1000000000):
  Calls Tryz.prog 23 #[.pointer (some ⟨pp,0,none⟩),.int .i64 (T:Int)] w fun e w'=>e= .returned (.int .i64 0)∧mr E own pp c w (dw c.life (⟨S.items,T⟩,recs) S.live).1 (dw c.life (⟨S.items,T⟩,recs) S.live).2 l none (oS S (dw c.life (⟨S.items,T⟩,recs) S.live).1 d) w':=by
 obtain ⟨K,p,o,q,O,t,L,I,f,g,u,v,y,z,j,J⟩:=h
 cases I with
 | some x=>cases y
 | none=>
  obtain ⟨s,G,M,N⟩:=yk f u T m.2;refine (J6 f T m g).mono ?_;rintro e H ⟨rfl,r,a,n,D,F⟩;have C:=f.post.bag.kn;refine ⟨rfl,ee H p o r a (dw c.life (⟨S.items,T⟩,recs) S.live).1 t L,⟨K,p,o,r,a,t,L,none,n,g,G,v,rfl,fun i A=>?_,fun k e=>e.elim id (fun e=>by cases e),fun k e=>nz _ n e⟩,fun k e=>(D k e).imp (fun e=>j k (.inl e)) id,F.mono (fun k _ e=> .inr (j k (.inl e)))⟩;unfold oS
  by_cases b:i < S.items.length
  ·rw [if_pos b,←z i (s.live A b)];unfold bV;rw [s.mail i b]
  ·rw [if_neg b];unfold bV;rw [if_neg (by omega)]
def Aw (S S':bp) (d:Nat→Int×Int) (t:aQ) (ws:List Int) (i:Nat):Int×Int:=if i=t.i then (S.time+kH ws (d t.i).2,(d t.i).2+1) else oS S S' d i
theorem iC.overTo {K:Kn} {b a:Nat} {q:Nat→Nat} {m f:Value} {L:List (Option eH)} {x:iJ} (n:@bQ K E pp b a c w q m S recs f L) (o:Kt K E pp b a w q m S f L (some x)) (p:@mJ K S) (z:L.map (Option.map (·.s))=l) (r:∀i∈S.live,@bV K S i=d i) (s:∀k,ee w b a q m S f L k∨r7 (some x) k→own k) (C:tv E pp b a c w q m S recs f L x w'):mr E own pp c w (cV S recs x.t).1 (cV S recs x.t).2 l none (Aw S (cV S recs x.t).1 d x.t c.waits) w':=by
 obtain ⟨y,g,u,D,F⟩:=C;obtain ⟨v,G,H⟩:=o9 n o p;have A:=n.post.bag.kn;refine ⟨ee w' b a y g (cV S recs x.t).1 f L,⟨_,b,a,y,g,f,L,none,u,rfl,FD n o p (.pointer none),z,rfl,fun i t=>?_,fun k e=>e.elim id (fun e=>by cases e),fun k e=>nz _ u e⟩,fun k e=>(D k e).imp (fun e=>s k (.inl e)) id,F.mono (fun k _ e=>e.imp id (fun e=>s k (e.elim .inr .inl)))⟩;have e:@bV (Kn.mk (iQ K (cV S recs x.t).1 x.t.i (nt S x.t c.waits)).D0 (cV S recs x.t).1.items.length (.pointer none)) (cV S recs x.t).1 i=if i=x.t.i then nt S x.t c.waits else bV (cV S recs x.t).1 i:=if_pos (bq t);rw [e];unfold Aw
 by_cases h:i=x.t.i
 ·rw [if_pos h,if_pos h];unfold nt;rw [r _ o.live]
 ·rw [if_neg h,if_neg h];unfold oS
  by_cases j:i < S.items.length
  ·rw [if_pos j,←r i (v.live t j)];unfold bV;rw [v.mail i j]
  ·rw [if_neg j];unfold bV;rw [if_neg (by omega)]
theorem iC.hang {t:aQ} (h:iC E own pp c w S recs l (some t) d):Calls Tryz.prog 21 #[.pointer (some ⟨pp,0,none⟩)] w fun e w'=>e= .returned (.int .i64 0)∧mr E own pp c w (cV S recs t).1 (cV S recs t).2 l none (Aw S (cV S recs t).1 d t c.waits) w':=by
 obtain ⟨K,r,p,q,s,u,L,n,a,b,f,i,g,j,k,o⟩:=h
 cases n with
 | none=>cases g
 | some x=>
  have e:x.t=t:=by simpa using g
  subst e;refine (J0 a b f).mono ?_;rintro e v ⟨rfl,m⟩;exact ⟨rfl,iC.overTo a b f i j k m⟩
theorem iC.ansEnd {t:aQ} (h:iC E own pp c w S recs l (some t) d) (p:t.said=6) (a:Nat) (n:200≤a∧a≤599):Calls Tryz.prog 33 #[.pointer (some ⟨pp,0,none⟩),.int .i64 (a:Int)] w fun e w'=>e= .returned (.tuple #[.string ⟨#[]⟩,.int .i64 0])∧mr E own pp c w (cV S recs t).1 (cV S recs t).2 l none (Aw S (cV S recs t).1 d t c.waits) w':=by
 obtain ⟨K,v,u,q,y,z,L,r,b,f,g,j,i,k,m,s⟩:=h
 cases r with
 | none=>cases i
 | some x=>
  have e:x.t=t:=by simpa using i
  subst e;refine (yy b f g p a n).mono ?_;rintro e A ⟨rfl,o⟩;exact ⟨rfl,iC.overTo b f g j k m o⟩
def Gn (c:bX) (S:bp) (t:aQ) (code:Nat):aQ×List UInt8:=t.hear (cQ c) (S.mailOf t.i).frm (mD (S.mailOf t.i).body) (code / 100)
theorem iC.ans {t:aQ} (h:iC E own pp c w S recs l (some t) d) (C:t.said≠6) (a:Nat) (A:200≤a∧a≤599):Calls Tryz.prog 33 #[.pointer (some ⟨pp,0,none⟩),.int .i64 (a:Int)] w fun e w'=>e= .returned (.tuple #[.string (bs (Gn c S t a).2),.int .i64 0])∧mr E own pp c w S recs l (some (Gn c S t a).1) d w':=by
 obtain ⟨K,m,j,q,n,o,L,I,s,u,v,y,f,z,b,J⟩:=h
 cases I with
 | none=>cases f
 | some x=>
  have e:x.t=t:=by simpa using f
  subst e;refine (Gp s u C a A).mono ?_;rintro e H ⟨rfl,p,r,g,i,D,F,G⟩;refine ⟨rfl,fun k=>ee H m j q n S o L k∨p.own k,⟨K,m,j,q,n,o,L,some p,g,i,v,y,congrArg some r,z,fun k e=>e,fun k e=>?_⟩,fun k e=>?_,G.mono (fun k _ e=> .inr (b k (.inr e)))⟩
  ·rcases e with e | e
   ·exact nz _ g e
   ·exact (DV _ i).1 k e
  ·rcases e with e | e
   ·exact .inl (b k (.inl (D k e)))
   ·exact (F k e).imp (fun e=>b k (.inr e)) id
theorem iC.dial (h:iC E own pp c w S recs l none d):Calls Tryz.prog 22 #[.pointer (some ⟨pp,0,none⟩)] w fun e w'=>((∀i∈S.live,(S.time:Int) < (d i).1)∧e= .returned (.tuple #[.int .i64 0,.int .i64 5])∧mr E own pp c w S recs l none d w')∨∃i,i∈S.live∧(d i).1≤S.time∧e= .returned (.tuple #[.int .i64 ((i:Int)+1),.int .i64 0])∧mr E own pp c w S recs l (some (jM S i)) d w':=by
 have u:=h;obtain ⟨K,r,p,q,s,t,L,M,v,y,z,A,C,g,D,N⟩:=h
 cases M with
 | some x=>cases C
 | none=>
  refine (JW v y).mono ?_;rintro e J (⟨a,b,f⟩ | ⟨i,x,a,b,f,o,m,G,H,I⟩)
  ·exact .inl ⟨fun i n=>by rw [←g i n];exact a i n,b,own,u.below f,fun k e=> .inl e,aH.below f⟩
  ·have F:∀j,@bV (Kn.mk K.D0 K.n0 (.pointer (some ⟨x.tb,0,none⟩))) S j=@bV K S j:=fun j=>rfl;refine .inr ⟨i,a,by have:=(DV _ m).2;rw [F,b] at this;rw [←g i a];exact this,f,fun k=>ee J r p q s S t L k∨x.own k,⟨_,r,p,q,s,t,L,some x,o,m,z,A,congrArg some b,g,fun k e=>e,fun k e=>?_⟩,fun k e=>?_,I.mono (fun k _ e=> .inl e)⟩
   ·rcases e with e | e
    ·exact nz _ o e
    ·exact (DV _ m).1 k e
   ·rcases e with e | e
    ·exact .inl (D k (.inl (G k e)))
    ·exact .inr (H k e)
end
structure GS where
 S:bp
 recs:List UInt8
 l:List (Option bG)
 tk:Option aQ
 d:Nat→Int×Int
 seats:List j0
 mails:List aX
 bad:Bool
def fI (c:bX) (g:GS) (n:Nat) (s:bG) (x:j0) (l:List UInt8):GS where
 S:=(aO c s g.S g.recs l false).2.1
 recs:=(aO c s g.S g.recs l false).2.2.1
 l:=g.l.set n (if (aO c s g.S g.recs l false).1.over then none else some (aO c s g.S g.recs l false).1)
 tk:=g.tk
 d:=oS g.S (aO c s g.S g.recs l false).2.1 g.d
 seats:=g.seats.set n (gH x l (aO c s g.S g.recs l false).2.2.2.flatten)
 mails:=g.mails++fL x l (aO c s g.S g.recs l false).2.2.2.flatten
 bad:=g.bad || dp x l (aO c s g.S g.recs l false).2.2.2.flatten
def Ee (c:bX) (g:GS) (addr:Int):GS:={g with l:=g.l++[some (dI c addr)],seats:=g.seats++[⟨addr,false,false,false,[]⟩]}
def yj (c:bX) (g:GS) (T:Nat):GS:={g with S:=(dw c.life (⟨g.S.items,T⟩,g.recs) g.S.live).1,recs:=(dw c.life (⟨g.S.items,T⟩,g.recs) g.S.live).2,d:=oS g.S (dw c.life (⟨g.S.items,T⟩,g.recs) g.S.live).1 g.d}
def Bt (c:bX) (g:GS) (t:aQ):GS:={g with S:=(cV g.S g.recs t).1,recs:=(cV g.S g.recs t).2,tk:=none,d:=Aw g.S (cV g.S g.recs t).1 g.d t c.waits}
def Cv (g:GS) (n:Nat) (x:j0):GS:={g with l:=g.l.set n none,seats:=g.seats.set n {x with closed:=true}}
inductive vo (c:bX):GS→GS→Prop
 | line (g:GS) (n:Nat) (s:bG) (x:j0) (l:List UInt8) (hl:l∈LL) (hs:g.l[n]? =some (some s)) (hx:g.seats[n]? =some x):vo c g (fI c g n s x l)
 | conn (g:GS) (addr:Int) (h0:0≤addr) (h1:addr < 1000) (hl:g.l.length < 100):vo c g (Ee c g addr)
 | tick (g:GS) (T:Nat) (hT:g.S.time≤T∧T≤1000000000) (ht:g.tk=none):vo c g (yj c g T)
 | dial (g:GS) (i:Nat) (hi:i∈g.S.live) (hd:(g.d i).1≤g.S.time) (ht:g.tk=none):vo c g {g with tk:=some (jM g.S i)}
 | ans (g:GS) (t:aQ) (code:Nat) (hc:200≤code∧code≤599) (hs:t.said≠6) (ht:g.tk=some t):vo c g {g with tk:=some (Gn c g.S t code).1}
 | over (g:GS) (t:aQ) (ht:g.tk=some t):vo c g (Bt c g t)
 | close (g:GS) (n:Nat) (s:bG) (x:j0) (hs:g.l[n]? =some (some s)) (hx:g.seats[n]? =some x):vo c g (Cv g n x)
inductive fy (c:bX):Nat→GS→GS→Prop
 | nil (g:GS):fy c 0 g g
 | snoc {k:Nat} {g g' g'':GS} (h:fy c k g g') (s:vo c g' g''):fy c (k+1) g g''
theorem fy.one {c:bX} {g g':GS} (h:vo c g g'):fy c 1 g g':= .snoc (.nil g) h
theorem fy.trans {c:bX} {k m:Nat} {g g' a:GS} (h:fy c k g g') (b:fy c m g' a):fy c (k+m) g a:=by
 induction b with
 | nil=>exact h
 | snoc _ s ih=>exact .snoc (ih h) s
structure dX (c:bX):Prop where
 doms:c.doms=na
 nets:c.nets=[(256,24)]
 may:ij c=true
structure hJ (g:GS):Prop where
 len:g.seats.length=g.l.length
 seat:∀(n:Nat) (x:j0) (o:Option bG),g.seats[n]? =some x→g.l[n]? =some o→fj x o
 bad:g.bad=false
 ids:∀m∈g.mails,m.id≤g.S.items.length
 tos:∀m∈g.mails,m.tos.length≤10
 more:g.mails.length≤g.S.items.length
 told:∀i,i < g.S.items.length→(∀m∈g.mails,m.id=i+1→∀t∈(g.S.mailOf i).tos,t∈m.tos)∧((∀m∈g.mails,m.id≠i+1)→xu (g.S.mailOf i))
theorem kQ {α:Type} {l:List α} {n m:Nat} {v y:α} (h:(l.set n v)[m]? =some y):(m=n∧v=y)∨(m≠n∧l[m]? =some y):=by
 by_cases e:n=m
 ·subst e
  by_cases a:n < l.length
  ·rw [List.getElem?_set_self a] at h;exact .inl ⟨rfl,by injection h⟩
  ·rw [List.getElem?_eq_none (by simp;omega)] at h
   cases h
 ·rw [List.getElem?_set_ne e] at h;exact .inr ⟨Ne.symm e,h⟩
theorem kU {α:Type} {l:List α} {v y:α} {n:Nat} (h:(l++[v])[n]? =some y):(n=l.length∧v=y)∨(n < l.length∧l[n]? =some y):=by
 by_cases a:n < l.length
 ·rw [List.getElem?_append_left a] at h;exact .inr ⟨a,h⟩
 ·rw [List.getElem?_append_right (by omega)] at h
  by_cases e:n - l.length=0
  ·rw [e] at h;exact .inl ⟨by omega,by injection h⟩
  ·rw [List.getElem?_eq_none (by simp;omega)] at h
   cases h
section
variable {c:bX} {g g':GS}
theorem hJ.later (h:hJ g) {f:bp} (j:iB g.S f) (a:List UInt8) (l:Option aQ) (n:Nat→Int×Int):hJ {g with S:=f,recs:=a,tk:=l,d:=n}:=by
 refine ⟨h.len,h.seat,h.bad,fun m k=>Nat.le_trans (h.ids m k) j.len,h.tos,Nat.le_trans h.more j.len,fun i o=>?_⟩
 by_cases b:i < g.S.items.length
 ·show (∀m∈g.mails,m.id=i+1→∀t∈(f.mailOf i).tos,t∈m.tos)∧((∀m∈g.mails,m.id≠i+1)→xu (f.mailOf i));rw [j.mail i b];exact h.told i b
 ·exact ⟨fun m k e=>by have:=h.ids m k;omega,fun _=>j.new i (by omega) o⟩
theorem Dk {c:bX} (b:c.nets=[(256,24)]) {a:Int}:(dI c a).nets=true→a / 256=1:=by
 intro h;have h:c.nets.any (iZ a)=true:=h;rw [b] at h;simp only [List.any_cons,List.any_nil,Bool.or_false] at h;unfold iZ at h;have h:=of_decide_eq_true h;have e:(2:Int) ^ ((32:Int) - 24).toNat=256:=by decide
 simp only [e] at h;omega
theorem Hy (e:dX c) {a:Int} (b:0≤a) (d:a < 1000):km ⟨a,false,false,false,[]⟩ (dI c a):=
 ⟨rfl,rfl,rfl,rfl,rfl,rfl,Dk e.nets,(fun t f=>by cases f),b,d⟩
theorem hJ.step (H:dX c) (h:hJ g) (J:vo c g g') (P:∀(n:Nat) (s:bG),g.l[n]? =some (some s)→gM c s g.S g.recs) (I:(∀T,g.S.time≤T∧T≤1000000000→iB g.S (dw c.life (⟨g.S.items,T⟩,g.recs) g.S.live).1)∧∀t,g.tk=some t→iB g.S (cV g.S g.recs t).1):hJ g':=by
 cases J with
 | line n s x l hll hsn hx=>
  have G:=h.seat n x _ hx hsn;obtain ⟨a,b,e⟩:=qR (S:=g.S) (recs:=g.recs) (pZ hll) H.doms G;have D:(fI c g n s x l).seats.length=(fI c g n s x l).l.length:=by show (g.seats.set ..).length=(g.l.set ..).length;rw [List.length_set,List.length_set];exact h.len
  have r:∀(m:Nat) (y:j0) (o:Option bG),(fI c g n s x l).seats[m]? =some y→(fI c g n s x l).l[m]? =some o→fj y o:=fun m y o A B=>by
   rcases kQ A with ⟨k,p⟩ | ⟨k,p⟩
   ·rcases kQ B with ⟨f,j⟩ | ⟨f,j⟩
    ·rw [←p,←j];exact a
    ·exact absurd k f
   ·rcases kQ B with ⟨f,j⟩ | ⟨f,j⟩
    ·exact absurd f k
    ·exact h.seat m y o p j
  have v:(fI c g n s x l).bad=false:=by show (g.bad || _)=false;rw [h.bad,b];rfl
  rcases e with ⟨k,f,M⟩ | ⟨t,b,k,f,M,R,N,O,U,V⟩
  ·have u:(fI c g n s x l).mails=g.mails:=by show g.mails++_=_;rw [k,List.append_nil]
   have w:(fI c g n s x l).S=g.S:=f;exact ⟨D,r,v,by rw [u,w];exact h.ids,by rw [u];exact h.tos,by rw [u,w];exact h.more,by rw [u,w];exact h.told⟩
  ·have u:(fI c g n s x l).mails=g.mails++[⟨g.S.items.length+1,0,[],t.tos,[]⟩]:=by show g.mails++_=_;rw [N]
   have w:(fI c g n s x l).S=g.S.plus (eJ g.S t.frm t.tos b.text):=O;have q:(g.S.plus (eJ g.S t.frm t.tos b.text)).items.length=g.S.items.length+1:=dv ..;have z:=((P n s hsn).tx t k).1.most;refine ⟨D,r,v,?_,?_,?_,?_⟩
   ·rw [u,w,q];intro m d
    rcases List.mem_append.1 d with d | d
    ·have:=h.ids m d;omega
    ·rw [List.mem_singleton.1 d];exact Nat.le_refl _
   ·rw [u];intro m d
    rcases List.mem_append.1 d with d | d
    ·exact h.tos m d
    ·rw [List.mem_singleton.1 d];exact z
   ·rw [u,w,q,List.length_append,List.length_singleton];have:=h.more;omega
   ·rw [u,w,q];intro i E
    by_cases C:i < g.S.items.length
    ·rw [je C];obtain ⟨K,L⟩:=h.told i C;refine ⟨fun m d e=>?_,fun F=>L fun m d=>F m (List.mem_append.2 (.inl d))⟩
     rcases List.mem_append.1 d with d | d
     ·exact K m d e
     ·rw [List.mem_singleton.1 d] at e;have e:g.S.items.length+1=i+1:=e;omega
    ·obtain rfl:i=g.S.items.length:=by omega
     rw [dN];refine ⟨fun m d e=>?_,fun F=>absurd rfl (F _ (List.mem_append.2 (.inr (List.mem_singleton.2 rfl))))⟩
     rcases List.mem_append.1 d with d | d
     ·have:=h.ids m d;omega
     ·rw [List.mem_singleton.1 d];exact fun y Q=>Q
 | conn addr h0 A hll=>
  refine ⟨by show (g.seats++[_]).length=(g.l++[_]).length;rw [List.length_append,List.length_append,h.len];rfl,fun m y o g1 g2=>?_,h.bad,h.ids,h.tos,h.more,h.told⟩
  rcases kU g1 with ⟨k,p⟩ | ⟨k,p⟩
  ·rcases kU g2 with ⟨f,j⟩ | ⟨f,j⟩
   ·rw [←p,←j];exact Hy H h0 A
   ·rw [h.len] at k;omega
  ·rcases kU g2 with ⟨f,j⟩ | ⟨f,j⟩
   ·rw [h.len] at k;omega
   ·exact h.seat m y o p j
 | tick T hT ht=>exact h.later (I.1 T hT) _ g.tk _
 | dial i E hd ht=>exact ⟨h.len,h.seat,h.bad,h.ids,h.tos,h.more,h.told⟩
 | ans t code hcc J ht=>exact ⟨h.len,h.seat,h.bad,h.ids,h.tos,h.more,h.told⟩
 | over t ht=>exact h.later (I.2 t ht) _ none _
 | close n s x hsn hx=>
  refine ⟨by show (g.seats.set ..).length=(g.l.set ..).length;rw [List.length_set,List.length_set];exact h.len,fun m y o A B=>?_,h.bad,h.ids,h.tos,h.more,h.told⟩
  rcases kQ A with ⟨k,p⟩ | ⟨k,p⟩
  ·rcases kQ B with ⟨f,j⟩ | ⟨f,j⟩
   ·rw [←p,←j];rfl
   ·exact absurd k f
  ·rcases kQ B with ⟨f,j⟩ | ⟨f,j⟩
   ·exact absurd f k
   ·exact h.seat m y o p j
end
def di (x:j0) (v:Value):List Value:=[.int .i64 x.addr,.bool x.known,.bool x.inside,.bool x.closed,v]
def gL (l:List (j0×Value)):List Value:=l.flatMap fun x=>di x.1 x.2
theorem DG (l:List (j0×Value)) (k i:Nat) (h:k < l.length) (b:i < 5):(gL l)[k * 5+i]? =(di l[k].1 l[k].2)[i]? :=by
 induction l generalizing k with
 | nil=>simp at h
 | cons x l ih=>
  show (di x.1 x.2++gL l)[k * 5+i]? =_;have a:(di x.1 x.2).length=5:=rfl
  cases k with
  | zero=>
   rw [List.getElem?_append_left (by rw [a];omega)];simp
  | succ k=>
   rw [List.getElem?_append_right (by rw [a];omega),a,show (k+1) * 5+i - 5=k * 5+i by omega]
   exact ih k (by simpa using h)
def fX (gb:Nat) (vS vM:Value) (k:Nat):Prop:=k=gb∨vS.ownBlock=some k∨vM.ownBlock=some k
structure iE (E own:Nat→Prop) (gb:Nat) (vS vM:Value) (w:World) (tos:List (List UInt8)) (v:Value):Prop where
 row:bg w v tos.length 1 (cm tos)
 off:∀k,v.ownBlock=some k→k < w.heap.size∧¬E k∧¬own k∧¬fX gb vS vM k
structure gX (E own:Nat→Prop) (pp gb:Nat) (c:bX) (w:World) (vS vM:Value) (sl:List (j0×Value)) (ml:List (aX×Value)) (g:GS):Prop where
 post:iC E own pp c w g.S g.recs g.l g.tk g.d
 blk:∃C:Array Value,w.heap[gb]? =some (.cells C 41 (0,0))∧C.size=14∧C[0]? =some (.pointer (some ⟨pp,0,none⟩))∧C[10]? =some vS∧C[11]? =some vM∧C[12]? =some (.int .i64 g.S.time)∧C[13]? =some (.bool g.bad)
 srow:w.ownsRow 0 51 5 vS sl.length (gL sl)
 mrow:w.ownsRow 0 45 5 vM ml.length (fJ ml)
 seq:sl.map (·.1)=g.seats
 meq:ml.map (·.1)=g.mails
 stos:∀x∈sl,iE E own gb vS vM w x.1.tos x.2
 mtos:∀x∈ml,iE E own gb vS vM w x.1.tos x.2
 off:∀k,fX gb vS vM k→k < w.heap.size∧¬E k∧¬own k
section
variable {E own own' B:Nat→Prop} {pp gb:Nat} {c:bX} {w w':World} {vS vM vS' vM':Value} {sl:List (j0×Value)} {ml:List (aX×Value)} {g:GS} {tos:List (List UInt8)} {v:Value}
theorem iE.chg (h:iE E own gb vS vM w tos v) (i:aH B w w') (j:∀k,v.ownBlock=some k→¬B k) (m:∀k,own' k→own k∨w.heap.size≤k) (l:∀k,fX gb vS' vM' k→fX gb vS vM k∨w.heap.size≤k):iE E own' gb vS' vM' w' tos v:=
 ⟨h.row.chg i j,fun k e=>by
  obtain ⟨a,b,d,f⟩:=h.off k e
  exact ⟨Nat.lt_of_lt_of_le a i.size,b,fun x=>(m k x).elim d (fun x=>by omega),fun x=>(l k x).elim f (fun x=>by omega)⟩⟩
theorem iE.nil (w:World):iE E own gb vS vM w [] (.slice none 0 0):=⟨aF (World.ownsRow_nil _ _ _ _:w.ownsRow 0 9 1 (.slice none 0 0) 0 []),fun k e=>by cases e⟩
theorem gX.tag (h:gX E own pp gb c w vS vM sl ml g):(∀k,vS.ownBlock=some k→k≠gb∧vM.ownBlock≠some k)∧∀k,vM.ownBlock=some k→k≠gb:=by
 obtain ⟨C,f,_⟩:=h.blk;refine ⟨fun k e=>?_,fun k e x=>?_⟩
 ·obtain ⟨d,a⟩:=dm h.srow e;refine ⟨fun x=>?_,fun x=>?_⟩
  ·rw [x,f] at a;injection a with a;injection a with _ a _;exact absurd a (by decide)
  ·obtain ⟨i,b⟩:=dm h.mrow x;rw [a] at b;injection b with b;injection b with _ b _;exact absurd b (by decide)
 ·obtain ⟨d,a⟩:=dm h.mrow e;rw [x,f] at a;injection a with a;injection a with _ a _;exact absurd a (by decide)
theorem gX.call (h:gX E own pp gb c w vS vM sl ml g) {m:bp} {b:List UInt8} {q:List (Option bG)} {j:Option aQ} {p:Nat→Int×Int} (u:mr E own pp c w m b q j p w') (y:m.time=g.S.time):∃own',gX E own' pp gb c w' vS vM sl ml {g with S:=m,recs:=b,l:=q,tk:=j,d:=p}∧(∀k,own' k→own k∨w.heap.size≤k)∧aH (fun k=>k=pp∨own k) w w':=by
 obtain ⟨own',z,o,i⟩:=u;have a:∀k,fX gb vS vM k→¬(k=pp∨own k):=fun k e x=>x.elim (fun x=>(h.off k e).2.1 (by rw [x];exact h.post.epp)) (h.off k e).2.2;have f:∀{tos:List (List UInt8)} {v:Value},iE E own gb vS vM w tos v→iE E own' gb vS vM w' tos v:=fun t=>t.chg i (fun k e x=>x.elim (fun x=>(t.off k e).2.1 (by rw [x];exact h.post.epp)) (t.off k e).2.2.1) o (fun k e=> .inl e);obtain ⟨C,r,s⟩:=h.blk;exact ⟨own',⟨z,⟨C,i.some_ r (a _ (.inl rfl)),by show _∧_∧_∧_∧C[12]? =some (.int .i64 m.time)∧_;rw [y];exact s⟩,bC h.srow i (fun k e=>a k (.inr (.inl e))),bC h.mrow i (fun k e=>a k (.inr (.inr e))),h.seq,h.meq,fun x n=>f (h.stos x n),fun x n=>f (h.mtos x n),fun k e=>⟨Nat.lt_of_lt_of_le (h.off k e).1 i.size,(h.off k e).2.1,fun x=>(o k x).elim (h.off k e).2.2 (fun x=>by have:=(h.off k e).1;omega)⟩⟩,o,i⟩
theorem gX.turn (h:gX E own pp gb c w vS vM sl ml g) (m:aH (fX gb vS vM) w w') {b:List (j0×Value)} {a:List (aX×Value)} {d:Bool}
  (l:∃C:Array Value,w'.heap[gb]? =some (.cells C 41 (0,0))∧C.size=14∧C[0]? =some (.pointer (some ⟨pp,0,none⟩))∧C[10]? =some vS'∧C[11]? =some vM'∧C[12]? =some (.int .i64 g.S.time)∧C[13]? =some (.bool d))
  (o:w'.ownsRow 0 51 5 vS' b.length (gL b)) (n:w'.ownsRow 0 45 5 vM' a.length (fJ a)) (i:∀k,fX gb vS' vM' k→fX gb vS vM k∨w.heap.size≤k)
  (s:∀x∈b,iE E own gb vS vM w x.1.tos x.2) (r:∀x∈a,iE E own gb vS vM w x.1.tos x.2):gX E own pp gb c w' vS' vM' b a {g with seats:=b.map (·.1),mails:=a.map (·.1),bad:=d}:=by
 have p:∀{tos:List (List UInt8)} {v:Value},iE E own gb vS vM w tos v→iE E own gb vS' vM' w' tos v:=fun t=>t.chg m (fun k e=>(t.off k e).2.2.2) (fun k e=> .inl e) i
 have f:∀k,fX gb vS' vM' k→k < w'.heap.size:=fun k e=>by
  rcases e with e | e | e
  ·obtain ⟨C,q,_⟩:=l;rw [e];exact ah q
  ·exact (kD o e).2
  ·exact (kD n e).2
 exact ⟨h.post.chg m (fun k e x=>(h.off k x).2.1 e) (fun k e x=>(h.off k x).2.2 e),l,o,n,rfl,rfl,fun x j=>p (s x j),fun x j=>p (r x j),fun k e=>⟨f k e,(i k e).elim (fun x=>(h.off k x).2.1) (fun x y=>by have:=h.post.elt y;omega),(i k e).elim (fun x=>(h.off k x).2.2) (fun x y=>by have:=h.post.lt y;omega)⟩⟩
theorem gX.below (h:gX E own pp gb c w vS vM sl ml g) (a:Below w.heap.size w w'):gX E own pp gb c w' vS vM sl ml g:=by
 have b:aH (fun _=>False) w w':=aH.below a;have f:∀{tos:List (List UInt8)} {v:Value},iE E own gb vS vM w tos v→iE E own gb vS vM w' tos v:=fun t=>t.chg b (fun k e x=>x) (fun k e=> .inl e) (fun k e=> .inl e);obtain ⟨C,i,j⟩:=h.blk;exact ⟨h.post.below a,⟨C,ae a i,j⟩,bC h.srow b (fun _ _ x=>x),bC h.mrow b (fun _ _ x=>x),h.seq,h.meq,fun x d=>f (h.stos x d),fun x d=>f (h.mtos x d),fun k e=>⟨Nat.lt_of_lt_of_le (h.off k e).1 a.size,(h.off k e).2⟩⟩
theorem gX.same (h:gX E own pp gb c w vS vM sl ml g) {a:GS} (e:g=a):gX E own pp gb c w vS vM sl ml a:=by rw [←e];exact h
theorem gX.cells (h:gX E own pp gb c w vS vM sl ml g):w.cell? ⟨gb,0,none⟩=some (.pointer (some ⟨pp,0,none⟩))∧w.cell? ⟨gb,10,none⟩=some vS∧w.cell? ⟨gb,11,none⟩=some vM∧w.cell? ⟨gb,12,none⟩=some (.int .i64 g.S.time)∧w.cell? ⟨gb,13,none⟩=some (.bool g.bad)∧∀j,w.frozen? ⟨gb,j,none⟩=false:=by
 obtain ⟨C,a,k,b,d,e,f,i⟩:=h.blk;refine ⟨by rw [Lib.cell_of_heap a];exact b,by rw [Lib.cell_of_heap a];exact d,by rw [Lib.cell_of_heap a];exact e,by rw [Lib.cell_of_heap a];exact f,by rw [Lib.cell_of_heap a];exact i,fun j=>Lib.frozen_of_heap a j⟩
theorem gX.seat (h:gX E own pp gb c w vS vM sl ml g) {n:Nat} (o:n < sl.length):∃sb a,vS= .slice (some ⟨sb,0,none⟩) sl.length a∧(∀i,i < 5→w.cell? ⟨sb,n * 5+i,none⟩=(di sl[n].1 sl[n].2)[i]?)∧∀j,w.frozen? ⟨sb,j,none⟩=false:=by
 rcases h.srow.2 with ⟨_,p⟩ | ⟨l,f,k,e,_,d,_,_,_,b⟩
 ·omega
 ·refine ⟨l,f,e,fun i m=>?_,fun j=>Lib.frozen_of_heap d j⟩;rw [Lib.cell_of_heap d,←Array.getElem?_toList,←List.getElem?_take_of_lt (show n * 5+i < sl.length * 5 by omega),b,DG _ _ _ o m]
end
def K9:List UInt8:=[72,69,76,79,32,120]
def Ey:List UInt8:=[77,65,73,76,32,70,82,79,77,58,60,62]
def Ez:List UInt8:=[82,67,80,84,32,84,79,58,60,98,64,97,46,111,114,103,62]
def so:List UInt8:=[68,65,84,65]
def JP:List UInt8:=[72,69,76,79,32,120,13,10,77,65,73,76,32,70,82,79,77,58,60,62,13,10,82,67,80,84,32,84,79,58,60,98,64,97,46,111,114,103,62,13,10,68,65,84,65,13,10,46,13,10]
def Ea:List UInt8:=[50,53,48,32,109,120,46,111,114,103,13,10,50,53,48,32,111,107,13,10,50,53,48,32,111,107,13,10,51,53,52,32,103,111,13,10,50,53,48,32,107,101,112,116,32,49,13,10]
def rz:List UInt8:=[98,64,97,46,111,114,103]
def tQ:aX:=⟨1,0,[],[rz],[]⟩
def Cj:bp:=bp.plus ⟨[],0⟩ tQ
def I6:List UInt8:=bJ (k9 tQ)
section
variable {a b d:Int} {c:bX}
def br (c:bX):bG:={dI c 1 with greeted:=true}
theorem Gs (D:0≤a) (E:0≤b):cL (dD a b d) (dI (dD a b d) 1,⟨[],0⟩,[],[]) JP=(br (dD a b d),Cj,I6,Ea):=by
 obtain ⟨c,f⟩:∃c,dD a b d=c:=⟨_,rfl⟩;have g:c.most=1+a:=by rw [←f];rfl
 have h:c.size=1+b:=by rw [←f];rfl
 have m:dM c rz=true:=by rw [←f];kernel_rfl
 have o:jt c [] tQ=true:=by rw [←f];kernel_rfl
 have n:cQ c=[109,120,46,111,114,103]:=by rw [←f];rfl
 rw [f];clear f;have p:bn K9 false=⟨6,[],0,[]⟩:=by kernel_rfl
 have q:bn Ey false=⟨9,[],0,[]⟩:=by kernel_rfl
 have r:bn Ez false=⟨10,rz,0,[]⟩:=by kernel_rfl
 have s:bn so false=⟨5,[],0,[]⟩:=by kernel_rfl
 have t:zK K9=true:=by kernel_rfl
 have u:zK Ey=true:=by kernel_rfl
 have v:zK Ez=true:=by kernel_rfl
 have w:zK so=true:=by kernel_rfl
 have x:zK [46]=true:=by kernel_rfl
 have i:JP=K9++[13,10]++(Ey++[13,10]++(Ez++[13,10]++(so++[13,10]++([46]++[13,10])))):=rfl
 have y:aO c (dI c 1) ⟨[],0⟩ [] K9 false=(br c,⟨[],0⟩,[],[[50,53,48,32]++cQ c++[13,10]]):=by
  show ((bz c (dI c 1) (bn K9 false)).1,_,_,(bz c (dI c 1) (bn K9 false)).2)=_;rw [p];rfl
 have z:aO c (br c) ⟨[],0⟩ [] Ey false=({br c with tx:=some ⟨[],[],none⟩},⟨[],0⟩,[],[jD]):=by
  show ((bz c (br c) (bn Ey false)).1,_,_,(bz c (br c) (bn Ey false)).2)=_;rw [q];have e:bz c (br c) ⟨9,[],0,[]⟩=if c.size < ((0:Nat):Int) then (br c,[uw]) else ({br c with tx:=some ⟨[],[],none⟩},[jD]):=rfl;rw [e,if_neg (by rw [h];omega)]
 have A:aO c {br c with tx:=some ⟨[],[],none⟩} ⟨[],0⟩ [] Ez false=({br c with tx:=some ⟨[],[rz],none⟩},⟨[],0⟩,[],[jD]):=by
  show ((bz c {br c with tx:=some ⟨[],[],none⟩} (bn Ez false)).1,_,_,(bz c {br c with tx:=some ⟨[],[],none⟩} (bn Ez false)).2)=_;rw [r];have e:bz c {br c with tx:=some ⟨[],[],none⟩} ⟨10,rz,0,[]⟩=({br c with tx:=some ⟨[],cY [] c.most ((br c).nets || (br c).known || dM c rz) rz,none⟩},[b9 [] c.most ((br c).nets || (br c).known || dM c rz) rz]):=rfl;have j:((br c).nets || (br c).known || dM c rz)=true:=by rw [m,Bool.or_true]
  have k:cY [] c.most true rz=[rz]:=by
   unfold cY;rw [if_neg (by decide),if_neg (by rw [g];show ¬((0:Nat):Int)=1+a;omega),if_pos rfl];rfl
  have l:b9 [] c.most true rz=jD:=by
   unfold b9;rw [if_neg (by decide),if_neg (by rw [g];show ¬((0:Nat):Int)=1+a;omega),if_pos rfl];rfl
  rw [e,j,k,l]
 have B:aO c {br c with tx:=some ⟨[],[rz],none⟩} ⟨[],0⟩ [] so false=({br c with tx:=some ⟨[],[rz],some ⟨[],false,false⟩⟩},⟨[],0⟩,[],[zl]):=by
  show ((bz c {br c with tx:=some ⟨[],[rz],none⟩} (bn so false)).1,_,_,(bz c {br c with tx:=some ⟨[],[rz],none⟩} (bn so false)).2)=_;rw [s];rfl
 have C:aO c {br c with tx:=some ⟨[],[rz],some ⟨[],false,false⟩⟩} ⟨[],0⟩ [] [46] false=(br c,Cj,I6,[[50,53,48,32,107,101,112,116,32]++Lib.itoa ((0:Int)+1)++[13,10]]):=by
  show kz c {br c with tx:=some ⟨[],[rz],some ⟨[],false,false⟩⟩} ⟨[],0⟩ [] ⟨[],[rz],some ⟨[],false,false⟩⟩ ⟨[],false,false⟩=_;unfold kz;rw [if_neg (by decide),if_neg (by rw [h];show ¬1+b < ((0:Nat):Int);omega)];exact Eq.trans (if_pos o) rfl
 rw [i,gI c _ _ _ _ t rfl rfl,y,gI c _ _ _ _ u rfl rfl,z,gI c _ _ _ _ v rfl rfl,A,gI c _ _ _ _ w rfl rfl,B,lQ c _ _ _ _ x rfl rfl,C,n,show Lib.itoa ((0:Int)+1)=[49] by kernel_rfl]
 rfl
theorem Ag:gA Cj.items=[tQ]:=by kernel_rfl
theorem Af:mX (dD a b d)=[50,50,48,32,109,120,46,111,114,103,13,10]:=rfl
def I5 (c:bX):GS:=⟨Cj,I6,[some (br c)],none,oS ⟨[],0⟩ Cj (fun _=>(0,0)),[⟨1,false,false,false,[]⟩],[⟨1,0,[],[rz],[]⟩],false⟩
end
def tB (E own:Nat→Prop) (pp gb:Nat) (c:bX) (w:World) (vS vM:Value) (sl:List (j0×Value)) (ml:List (aX×Value)) (g:GS) (w1:World):Prop:=
 ∃own1,gX E own1 pp gb c w1 vS vM sl ml g∧(∀k,own1 k→own k∨w.heap.size≤k)∧aH (fun k=>k=pp∨own k) w w1
section
variable {E own:Nat→Prop} {pp gb:Nat} {c:bX} {w w1 w2:World} {vS vM:Value} {sl:List (j0×Value)} {ml:List (aX×Value)} {g g':GS}
theorem tB.refl (h:gX E own pp gb c w vS vM sl ml g):tB E own pp gb c w vS vM sl ml g w:=⟨own,h,fun _ e=> .inl e,aH.refl _ _⟩
theorem tB.then {a b:Nat→Prop} (j:∀k,a k→own k∨w.heap.size≤k) (i:aH (fun k=>k=pp∨own k) w w1) (h:gX E b pp gb c w2 vS vM sl ml g) (f:∀k,b k→a k∨w1.heap.size≤k) (d:aH (fun k=>k=pp∨a k) w1 w2):tB E own pp gb c w vS vM sl ml g w2:=
 ⟨b,h,fun k e=>(f k e).elim (j k) (fun e=> .inr (Nat.le_trans i.size e)),i.trans d (fun k l e=>e.imp id (fun e=>(j k e).elim id (fun e=>by omega)))⟩
theorem tB.below (h:tB E own pp gb c w vS vM sl ml g w1) (b:Below w1.heap.size w1 w2):tB E own pp gb c w vS vM sl ml g w2:=by
 obtain ⟨a,d,f,i⟩:=h;exact ⟨a,d.below b,f,i.trans (aH.below b:aH (fun _=>False) w1 w2) (fun _ _ e=>e.elim)⟩
theorem tB.answer (h:tB E own pp gb c w vS vM sl ml g w1) {t D:aQ} {x:List UInt8} (z:g.tk=some t) (y:t.said≠6) (a:Nat) (v:200≤a∧a≤599) (A:Gn c g.S t a=(D,x++yQ)) (J:x.length≤1000000000):
  Calls Tryz.prog 51 #[.pointer (some ⟨gb,0,none⟩),.int .i64 (a:Int)] w1 fun e L=>e= .returned (.string (bs x))∧tB E own pp gb c w vS vM sl ml {g with tk:=some D} L:=by
 obtain ⟨B,k,p,q⟩:=h;have I:=k.cells.1;obtain ⟨Y,f⟩:∃Y,x++yQ=Y:=⟨_,rfl⟩;have o:=k.post;rw [z] at o;have b:=o.ans y a v;rw [A,f] at b;have F:=Lib.hid b;have l:=Lib.hid k;have m:=Lib.hid p;have n:=Lib.hid q;obtain ⟨N,d⟩:∃N,x.length=N:=⟨_,rfl⟩;have P:(bs Y).size=N+2:=by rw [aG,←f,List.length_append,d];rfl
 have M:N≤1000000000:=by omega
 have Q:(((bs Y).extract N (N+2)).toList == [13,10])=true:=by
  rw [fW,ByteArray.toList_eq,aI,←f,List.take_of_length_le (by rw [List.length_append,d];exact Nat.le_refl _),←d,List.drop_left];rfl
 have j:(bs Y).extract 0 N=bs x:=by
  rw [fW,List.drop_zero,←f,←d,List.take_left]
 have H:=Lib.hid j;have O:IntKind.i64.wrap ((N:Int)+2 - 2)=(N:Int):=by rw [IntKind.wrap_i64];omega
 have K:¬(N:Int)+2 < 2:=by omega
 clear o b k p q v A j f d y z J;go_enter Tryz.func51,Tryz.ntmps51;go_wp2_with fail
 refine F.out.mono ?_;rintro e w2 ⟨rfl,i⟩;obtain ⟨C,r,s,u⟩:=l.out.call i rfl;have G:=Lib.hid (tB.then m.out n.out r s u);clear i r s u I;go_wp2_with fail
 rw [H.out];go_ret;exact ⟨rfl,G.out⟩
end
structure KS (c:bX) (g:GS):Prop where
 sok:oK (g.S,g.recs)
 ses:∀(n:Nat) (s:bG),g.l[n]? =some (some s)→gM c s g.S g.recs
 talk:∀t,g.tk=some t→t.i∈g.S.live∧dC (g.S.stayOf t.i) t
theorem gM.fine {c:bX} {s:bG} {S e:bp} {b a:List UInt8} (h:gM c s S b) (d:oK (e,a)):gM c s e a:=⟨h.tx,d.time,d.led,d.ok,h.wait⟩
theorem KS.step {c:bX} {g v:GS} (C:ij c=true) (d:KS c g) (E:vo c g v):KS c v:=by
 cases E with
 | line n s x l hl hsn hx=>
  obtain ⟨u,G,_⟩:=iU C (d.ses n s hsn) l false (uQ (pZ hl).ok).1;have j:oK ((fI c g n s x l).S,(fI c g n s x l).recs):=⟨u.recs,u.len,u.time⟩;have q:oj g.S (fI c g n s x l).S:=lP c s g.S g.recs l false;refine ⟨j,fun m y h=>?_,fun t f=>?_⟩
  ·rcases kQ h with ⟨_,e⟩ | ⟨_,e⟩
   ·split at e
    ·cases e
    ·injection e with e;rw [←e];exact u
   ·exact (d.ses m y e).fine j
  ·obtain ⟨a,b⟩:=d.talk t f;have o:=bq a;exact ⟨(q.live o).2 a,by rw [q.stay _ o];exact b⟩
 | conn addr h0 w hl=>
  refine ⟨d.sok,fun m y h=>?_,d.talk⟩
  rcases kU h with ⟨_,e⟩ | ⟨_,e⟩
  ·injection e with e;rw [←e];exact ⟨(fun t e=>by cases e),d.sok.time,d.sok.led,d.sok.ok,by show ([]:List UInt8).length≤102;decide⟩
  ·exact d.ses m y e
 | tick T hT htk=>
  have k:=lB (x:=((⟨g.S.items,T⟩:bp),g.recs)) ⟨d.sok.ok.time T,d.sok.led,hT.2⟩ c.life (l:=g.S.live) (fun i k=>k) (gJ g.S) g.S.live.length (Nat.le_refl _);rw [List.take_length] at k;exact ⟨k.1,fun m y h=>(d.ses m y h).fine k.1,(fun t f=>by have f:g.tk=some t:=f;rw [htk] at f;cases f)⟩
 | dial i k hd htk=>
  refine ⟨d.sok,d.ses,fun t f=>?_⟩;injection f with f;rw [←f];exact ⟨k,uL g.S i⟩
 | ans t code hcc hsd htk=>
  refine ⟨d.sok,d.ses,fun H f=>?_⟩;obtain ⟨a,b⟩:=d.talk t htk;injection f with f;rw [←f];have e:(Gn c g.S t code).1.i=t.i:=GY ..;rw [e];exact ⟨a,Ei b hsd _ _ _ _⟩
 | over t htk=>
  obtain ⟨a,b⟩:=d.talk t htk;have r:∀z,∀p∈t.took z,p∈(g.S.stayOf t.i).map (·.1):=fun z p D=>b.sub p (by unfold aQ.act;exact List.mem_append.2 (.inr (ob D)));have F:(g.S.stayOf t.i).length≤10:=dk d.sok.ok t.i;obtain ⟨_,_,_,A,_⟩:=kS (x:=(g.S,g.recs)) (gs:=t.took true) (fs:=t.took false) d.sok a (by have:=kF b true;omega) (by have:=kF b false;omega) (jg (iu b _)) (r _) (r _) (fun p w B=>mn b w B);exact ⟨A.ok,fun m y h=>(d.ses m y h).fine A.ok,(fun t f=>by cases f)⟩
 | close n s x hsn hx=>
  refine ⟨d.sok,fun m y h=>?_,d.talk⟩
  rcases kQ h with ⟨_,e⟩ | ⟨_,e⟩
  ·cases e
  ·exact d.ses m y e
end Go.Proofs.YtofpegbpgkkgkaaGreatDoor
