import Derived.Test.YtofpegbpgkkgkaaGreatDoorS37
import Derived.Test.YtofpegbpgkkgkaaGreatDoorS36
import Derived.Test.YtofpegbpgkkgkaaGreatDoorS33
namespace Go.Proofs.YtofpegbpgkkgkaaGreatDoor
set_option maxHeartbeats 8000000
set_option maxRecDepth 1000000
open Go.RowKit
section
variable {E:Nat→Prop} {pp pb mb:Nat} {c:bT} {w:World} {q:Nat→Nat} {vr:Value} {S:aa} {recs:List UInt8} {vs:Value} {l:List (Option dQ)}
theorem yW [K:Kn] (h:bJ E pp pb mb c w q vr S recs vs l) (d:Nat) (b:K.tk= .pointer (some ⟨d,0,none⟩)):
  Calls Tryz.prog 22 #[.pointer (some ⟨pp,0,none⟩)] w fun e f=>e= .returned (.tuple #[.int .i64 0,.int .i64 6])∧w=f:=by
 have a:=h.post.cell11;rw [b] at a;clear h;go_enter Tryz.func22,Tryz.ntmps22;go_wp2_with fail
 go_ret2
 exact ⟨rfl,rfl⟩
def jm (S:aa) (i:Nat):aP:=⟨i,0,S.stayOf i,[],[]⟩
theorem BM (S:aa) (i:Nat):dL (S.stayOf i) (jm S i):=by
 have e:(jm S i).act=(S.stayOf i).map (·.1):=by
  rw [kQ (by show 0≠6;omega)];simp [jm]
 refine ⟨by show 0≤6;omega,(fun h=>by cases h),?_,fun x d=>by rw [e] at d;exact d,by rw [e,List.length_map];exact Nat.le_refl _,fun x d=>by simpa [jm] using d⟩
 rw [e];exact (qJ _ _).imp fun {a b} h=>by omega
def Cz [K:Kn] (E:Nat→Prop) (pp pb mb:Nat) (c:bT) (w:World) (q:Nat→Nat) (vr:Value) (S:aa) (recs:List UInt8) (vs:Value) (l:List (Option dQ)) (e:Ending) (w':World):Prop:=
 ((∀i∈S.live,(S.time:Int) < (bQ S i).1)∧e= .returned (.tuple #[.int .i64 0,.int .i64 5])∧Below w.heap.size w w')∨
 ∃(i:Nat) (x:ia),i∈S.live∧x.t=jm S i∧e= .returned (.tuple #[.int .i64 ((i:Int)+1),.int .i64 0])∧@bJ (Kn.mk K.D0 K.n0 (.pointer (some ⟨x.tb,0,none⟩))) E pp pb mb c w' q vr S recs vs l∧@gM (Kn.mk K.D0 K.n0 (.pointer (some ⟨x.tb,0,none⟩))) E pp pb mb w' q vr S vs l x∧(∀k,dP w' pb mb q vr S vs l k→dP w pb mb q vr S vs l k)∧(∀k,x.own k→w.heap.size≤k)∧aF (fun k=>k=pp) w w'
theorem Cz.of [K:Kn] {i a f B:Nat} {va:Value} {w1 g:World} (d:bJ E pp pb mb c w q vr S recs vs l) (h:i∈S.live) (r:(bQ S i).1≤S.time) (C:w.heap.size≤B) (v:w1.ownsRow B 162 2 va (S.stayOf i).length (aL (S.stayOf i))) (b:Below w.heap.size w g) (t:w.heap.size≤w1.heap.size) (o:bM g a f pp pb va va (.slice none 0 0) (S.mailOf i).frm (S.mailOf i).body (S.stayOf i).length false (jm S i)) (u:w1.heap.size≤a) (p:w1.heap.size≤f):
  Cz E pp pb mb c w q vr S recs vs l (.returned (.tuple #[.int .i64 ((i:Int)+1),.int .i64 0])) (g.setCell ⟨pp,11,none⟩ (.pointer (some ⟨a,0,none⟩))):=by
 obtain ⟨x,j⟩:=d.below b;obtain ⟨y,m,n⟩:=x.retalk (.pointer (some ⟨a,0,none⟩))
 have own:∀k,kK a f va (.slice none 0 0) k→w.heap.size≤k:=fun k e=>by
  rcases e with e | e | e | e
  ·omega
  ·omega
  ·have:=(v.lt k e).1;omega
  ·cases e
 have s:=d.post.lt pp d.post.epp;refine .inr ⟨i,⟨a,f,va,va,.slice none 0 0,jm S i⟩,h,rfl,rfl,y,@gM.mk (Kn.mk K.D0 K.n0 (.pointer (some ⟨a,0,none⟩))) _ _ _ _ _ _ _ _ _ _ _ rfl (o.chg n (fun k e A=>by have:=own k e;omega)) h (BM S i) r (fun k e z=>by have:=own k e;have:=d.post.lt k z;omega) (fun k e z=>by have:=own k e;have:=d.olt (j k (m k z));omega),fun k e=>j k (m k e),own,(aF.below b:aF (fun k=>k=pp) w g).trans n (fun _ _ e=>e)⟩
theorem Ip [K:Kn] (f:bJ E pp pb mb c w q vr S recs vs l) (ht:K.tk= .pointer none):
  Calls Tryz.prog 22 #[.pointer (some ⟨pp,0,none⟩)] w (Cz E pp pb mb c w q vr S recs vs l):=by
 have Q:=f.post.cell11;rw [ht] at Q;have c9:=f.post.cell9;have T:=f.keep.2.1.items;have HL:=Lib.hid (zB 0 pb mb q vr S (bQ S) w f.post.bag.inn f.post.bag.due f.keep.2.2 (by omega));have Z:=Lib.hid f;have a3:pp < w.heap.size:=f.post.lt pp f.post.epp
 have r:Hid (∀W:World,Below w.heap.size w W→W.cell? ⟨pp,11,none⟩=some (.pointer none)∧W.frozen? ⟨pp,11,none⟩=false∧W.cell? ⟨pp,9,none⟩=some (.pointer (some ⟨pb,0,none⟩))):=Lib.hid (fun W hb=>by
  obtain ⟨X,_⟩:=f.below hb;have a:=X.post.cell11;rw [ht] at a
  exact ⟨a,X.post.froz 11,X.post.cell9⟩)
 clear f T;go_enter Tryz.func22,Tryz.ntmps22;go_wp2_with fail
 refine HL.out.mono ?_;rintro e d ⟨t,U⟩;have y:=Lib.hid t;have C:w.heap.size≤d.heap.size:=t.size;clear t
 rcases U with ⟨i,hi,hd,a,x,rfl,hv⟩ | ⟨A,rfl⟩
 ·obtain ⟨b,o⟩:∃b:World,d.alloc (.cells #[.int .i64 ((i:Int)+1),.string (bs (S.mailOf i).frm),.slice a (S.stayOf i).length x,.string (bs (S.mailOf i).body)] 104)=b:=⟨_,rfl⟩;have G:Below d.heap.size d b:=by rw [←o];exact (Below.refl _ _).alloc (Nat.le_refl _) _
  have s:b.heap[d.heap.size]? =some (.cells #[.int .i64 ((i:Int)+1),.string (bs (S.mailOf i).frm),.slice a (S.stayOf i).length x,.string (bs (S.mailOf i).body)] 104 (0,0)):=by rw [←o];exact heap_alloc_new d _
  have m0:b.drew.cell? ⟨d.heap.size,0,none⟩=some (.int .i64 ((i:Int)+1)):=by show b.cell? _=_;rw [Lib.cell_of_heap s];rfl
  have m1:b.drew.cell? ⟨d.heap.size,1,none⟩=some (.string (bs (S.mailOf i).frm)):=by show b.cell? _=_;rw [Lib.cell_of_heap s];rfl
  have m2:b.drew.cell? ⟨d.heap.size,2,none⟩=some (.slice a (S.stayOf i).length x):=by show b.cell? _=_;rw [Lib.cell_of_heap s];rfl
  have m3:b.drew.cell? ⟨d.heap.size,3,none⟩=some (.string (bs (S.mailOf i).body)):=by show b.cell? _=_;rw [Lib.cell_of_heap s];rfl
  have v:b.drew.ownsRow w.heap.size 162 2 (.slice a (S.stayOf i).length x) (S.stayOf i).length (aL (S.stayOf i)):=ax hv fun _ _ e _=>ae G e;have a4:=dp Z.out.keep.2.2 i;have g:=Lib.hid (uX pp pb i w.heap.size (S.mailOf i).frm (S.mailOf i).body (.slice a (S.stayOf i).length x) (S.stayOf i) b.drew v (by omega));have F:Below w.heap.size w b.drew:=(y.out.trans (G.mono C)).drew;obtain ⟨_,_,d9⟩:=r.out b.drew F;have z:=Lib.hid F;have j:=Lib.hid s;have h:=Lib.hid o;have O:=Lib.hid v;have u:w.heap.size≤b.drew.heap.size:=F.size;have a0:d.heap.size < b.drew.heap.size:=ah s;clear G s o hv v F;obtain ⟨fr,m⟩:∃fr,(S.mailOf i).frm=fr:=⟨_,rfl⟩;obtain ⟨bo,k⟩:∃bo,(S.mailOf i).body=bo:=⟨_,rfl⟩;obtain ⟨ln,n⟩:∃ln,(S.stayOf i).length=ln:=⟨_,rfl⟩;rw [m] at m1 g h j;rw [k] at m3 g h j;rw [n] at m2 g h j;have J:=Lib.hid m;have I:=Lib.hid k;have L:=Lib.hid n;rw [m,k,n];clear m k n;go_wp2_with fail
  rw [h.out];go_wp2_with fail
  go_region_law (first
   | (go_simp;go_at_call 48;refine g.out.mono ?_;rintro e Y ⟨tb,ch,rfl,D,V,R,p⟩;obtain ⟨a1,a2,_⟩:=r.out Y (z.out.trans (p.mono u));have x3:=ae p j.out;have N:=Lib.hid D;have H:=Lib.hid (z.out.trans (p.mono u));have P:=Lib.hid x3;clear D p x3;dsimp only))
  all_goals
   have HF:=Lib.hid (Cz.of (B:=w.heap.size) (w1:=b.drew) (va:= .slice a (S.stayOf i).length x) Z.out hi hd (Nat.le_refl _) O.out H.out u (by rw [J.out,I.out,L.out];exact N.out) V R)
   have y0:(Y.setCell ⟨pp,11,none⟩ (.pointer (some ⟨tb,0,none⟩))).cell? ⟨d.heap.size,0,none⟩=some (.int .i64 ((i:Int)+1)):=by
    rw [Lib.cell_of_heap (aJ ((aH.refl pp Y).setCell _) P.out (by omega))];rfl
   go_wp2_with fail
   go_ret2
   exact HF.out
 ·have M:=Lib.hid A;clear A;go_wp2_with fail
  go_ret2
  exact .inl ⟨M.out,rfl,y.out.alloc C _⟩
end
section
variable {S S':aa}
theorem gZ.live {i:Nat} (h:gZ S S') (a:i∈S'.live) (b:i < S.items.length):i∈S.live:=by
 obtain ⟨_,f⟩:=ju.1 a;refine xI fun e=>f ?_;refine List.eq_nil_iff_forall_not_mem.2 fun r d=>?_;have:=h.stay i b r d;rw [e] at this
 cases this
theorem lT.later [Kn] (h:lT S) (g:gZ S S') (d:S'.Ok) (k:Kn.n0≤S.items.length):lT S':=fun i f=>by
 by_cases b:i < S.items.length
 ·have e:bQ S' i=bQ S i:=by unfold bQ;rw [g.mail i b]
  rw [e];exact h i (g.live f b)
 ·have a:=bm f;have e:bQ S' i=(((S'.mailOf i).time:Int),0):=by unfold bQ;rw [if_neg (by omega)]
  have j:dq (S'.mailOf i):=by rw [bR a];exact (d.sz _ (List.getElem_mem a)).1
  have:=j.2.1;rw [e];show (0:Int)≤0∧(0:Int)≤((S'.mailOf i).time:Int)∧((S'.mailOf i).time:Int)≤10000000000;omega
theorem Hv {a:List Int} (g:1≤a.length) (d:∀x∈a,1≤x∧x≤1000000000) {f:Int} (e:0≤f):1≤j8 a f∧j8 a f≤1000000000:=by
 unfold j8;have b:(if (a.length:Int) - 1 < f then a.length - 1 else f.toNat) < a.length:=by split <;> omega
 rw [List.getD_eq_getElem?_getD,List.getElem?_eq_getElem b];exact d _ (List.getElem_mem b)
end
section
variable [K:Kn] {E:Nat→Prop} {pp pb mb:Nat} {c:bT} {w:World} {q:Nat→Nat} {vr:Value} {S:aa} {recs:List UInt8} {vs:Value} {l:List (Option dQ)} {x:ia}
theorem oi (f:bJ E pp pb mb c w q vr S recs vs l) (h:gM E pp pb mb w q vr S vs l x) (d:lT S):gZ S (cQ S recs x.t).1∧uf (cQ S recs x.t)∧(cQ S recs x.t).1.time=S.time:=by
 obtain ⟨g,n,e⟩:=h.endIn f d;obtain ⟨y,b,a⟩:=e.left;exact ⟨b.later.trans a.later,a.ok,a.aft.time.trans b.aft.time⟩
theorem Ea (d:bJ E pp pb mb c w q vr S recs vs l) (h:gM E pp pb mb w q vr S vs l x) (b:lT S) (v:Value):@lT (Kn.mk (il K (cQ S recs x.t).1 x.t.i (mz S x.t c.waits)).D0 (cQ S recs x.t).1.items.length v) (cQ S recs x.t).1:=by
 obtain ⟨m,o,_⟩:=oi d h b;obtain ⟨t,n,j⟩:=h.endIn d b;have f:=b.later m o.ok d.post.bag.kn;intro i a;have e:@bQ (Kn.mk (il K (cQ S recs x.t).1 x.t.i (mz S x.t c.waits)).D0 (cQ S recs x.t).1.items.length v) (cQ S recs x.t).1 i=if i=x.t.i then mz S x.t c.waits else bQ (cQ S recs x.t).1 i:=if_pos (bm a);rw [e]
 by_cases g:i=x.t.i
 ·rw [if_pos g];have k:=b _ h.live;have p:=h.due;have r:=Hv j.wb.1 j.wb.2.2 k.1;have s:=d.keep.1;show 0≤(bQ S x.t.i).2+1∧(bQ S x.t.i).2+1≤(S.time:Int)+j8 c.waits (bQ S x.t.i).2∧(S.time:Int)+j8 c.waits (bQ S x.t.i).2≤10000000000;omega
 ·rw [if_neg g];exact f i a
theorem wq (b:bJ E pp pb mb c w q vr S recs vs l) (f:lT S) (T:Nat) (e:T≤1000000000):gZ S (dt c.life (⟨S.items,T⟩,recs) S.live).1∧lT (dt c.life (⟨S.items,T⟩,recs) S.live).1∧uf (dt c.life (⟨S.items,T⟩,recs) S.live)∧(dt c.life (⟨S.items,T⟩,recs) S.live).1.time=T:=by
 have a:=qe (x:=((⟨S.items,T⟩:aa),recs)) ⟨b.sok.ok.time T,b.sok.led,e⟩ c.life (l:=S.live) (fun i a=>a) (iy S) S.live.length (Nat.le_refl _);rw [List.take_length] at a;have d:=(Bv S T).trans a.2.2.2;exact ⟨d,f.later d a.1.ok b.post.bag.kn,a.1,a.2.2.1⟩
end
def I4 (K:Kn) (E:Nat→Prop) (pp pb mb:Nat) (w:World) (q:Nat→Nat) (vr:Value) (S:aa) (vs:Value) (L:List (Option dQ)):Option ia→Prop
 | none=>K.tk= .pointer none
 | some x=>@gM K E pp pb mb w q vr S vs L x
def qL:Option ia→Nat→Prop
 | none,_=>False
 | some x,k=>x.own k
def hJ (E own:Nat→Prop) (pp:Nat) (c:bT) (w:World) (S:aa) (recs:List UInt8) (l:List (Option bA)) (tk:Option aP) (d:Nat→Int×Int):Prop:=
 ∃(K:Kn) (pb mb:Nat) (q:Nat→Nat) (vr vs:Value) (L:List (Option dQ)) (xo:Option ia),@bJ K E pp pb mb c w q vr S recs vs L∧I4 K E pp pb mb w q vr S vs L xo∧@lT K S∧L.map (Option.map (·.s))=l∧xo.map (·.t)=tk∧(∀i∈S.live,@bQ K S i=d i)∧(∀k,dP w pb mb q vr S vs L k∨qL xo k→own k)∧∀k,own k→k < w.heap.size∧¬E k
def qU (S S':aa) (d:Nat→Int×Int) (i:Nat):Int×Int:=if i < S.items.length then d i else (((S'.mailOf i).time:Int),0)
def lE (E own:Nat→Prop) (pp:Nat) (c:bT) (w:World) (S:aa) (recs:List UInt8) (l:List (Option bA)) (tk:Option aP) (d:Nat→Int×Int) (w':World):Prop:=
 ∃own',hJ E own' pp c w' S recs l tk d∧(∀k,own' k→own k∨w.heap.size≤k)∧aF (fun k=>k=pp∨own k) w w'
theorem xU {L:List (Option dQ)} {n:Nat} {s:bA} (h:(L.map (Option.map (·.s)))[n]? =some (some s)):∃x,L[n]? =some (some x)∧x.s=s:=by
 rw [List.getElem?_map] at h
 cases e:L[n]? with
 | none=>rw [e] at h;cases h
 | some o=>
  rw [e] at h
  cases o with
  | none=>cases h
  | some x=>exact ⟨x,rfl,by simpa using h⟩
theorem mA (K:Kn) {E:Nat→Prop} {pp b a:Nat} {c:bT} {w:World} {q:Nat→Nat} {f:Value} {S:aa} {recs:List UInt8} {g:Value} {L:List (Option dQ)} (h:@bJ K E pp b a c w q f S recs g L) {k:Nat} (e:dP w b a q f S g L k):k < w.heap.size∧¬E k:=⟨h.olt e,fun z=>h.eo z e⟩
theorem Cu (K:Kn) {E:Nat→Prop} {pp b a:Nat} {w:World} {q:Nat→Nat} {f:Value} {S:aa} {g:Value} {L:List (Option dQ)} {x:ia} (h:@gM K E pp b a w q f S g L x):(∀k,x.own k→k < w.heap.size∧¬E k)∧(bQ S x.t.i).1≤S.time:=⟨fun k e=>⟨bM.lt h.at_ e,h.fe k e⟩,h.due⟩
section
variable {E own B:Nat→Prop} {pp:Nat} {c:bT} {w w':World} {S:aa} {recs:List UInt8} {l:List (Option bA)} {tk:Option aP} {d:Nat→Int×Int}
theorem hJ.lt (h:hJ E own pp c w S recs l tk d) {k:Nat} (e:own k):k < w.heap.size:=by
 obtain ⟨K,p,o,q,r,s,L,t,b,f,g,i,j,m,n,a⟩:=h;exact (a k e).1
theorem hJ.off (h:hJ E own pp c w S recs l tk d) {k:Nat} (e:own k):¬E k:=by
 obtain ⟨K,p,o,q,r,s,L,t,b,f,g,i,j,m,n,a⟩:=h;exact (a k e).2
theorem hJ.elt (h:hJ E own pp c w S recs l tk d) {k:Nat} (e:E k):k < w.heap.size:=by
 obtain ⟨K,p,o,q,r,s,L,t,a,b,f,g,i,j,m,n⟩:=h;exact @dG.lt K _ _ _ _ _ _ _ _ _ _ _ _ a.post k e
theorem hJ.epp (h:hJ E own pp c w S recs l tk d):E pp:=by
 obtain ⟨K,n,m,q,o,p,L,r,a,b,e,f,g,i,j,k⟩:=h;exact a.post.epp
theorem hJ.glo (h:hJ E own pp c w S recs l tk d):iu w:=by
 obtain ⟨K,n,m,q,o,p,L,r,a,b,e,f,g,i,j,k⟩:=h;exact a.post.glo
theorem hJ.may (h:hJ E own pp c w S recs l tk d):iL c=true:=by
 obtain ⟨K,o,n,q,v,x,L,y,a,e,f,g,i,j,k,m⟩:=h;obtain ⟨r,s,t,u,b,p⟩:=a.post.set;exact b.may
theorem hJ.len (h:hJ E own pp c w S recs l tk d):l.length≤100:=by
 obtain ⟨K,n,m,q,o,p,L,r,a,e,f,b,g,i,j,k⟩:=h;rw [←b,List.length_map];exact a.len
theorem hJ.sok (h:hJ E own pp c w S recs l tk d):uf (S,recs):=by
 obtain ⟨K,n,m,q,o,p,L,r,a,b,e,f,g,i,j,k⟩:=h;exact a.sok
theorem hJ.inv (h:hJ E own pp c w S recs l tk d) {n:Nat} {s:bA} (a:l[n]? =some (some s)):iv c s S recs:=by
 obtain ⟨K,r,p,q,t,u,L,v,b,g,i,e,j,k,m,o⟩:=h;rw [←e] at a;obtain ⟨x,f,rfl⟩:=xU a;exact (b.ok n x f).inv
theorem hJ.talk {t:aP} (h:hJ E own pp c w S recs l (some t) d):t.i∈S.live∧dL (S.stayOf t.i) t∧(d t.i).1≤S.time:=by
 obtain ⟨K,p,o,q,r,s,L,g,i,a,j,k,b,f,m,n⟩:=h
 cases g with
 | none=>cases b
 | some x=>
  have e:x.t=t:=by simpa using b
  subst e;exact ⟨a.live,a.ok,by rw [←f _ a.live];exact a.due⟩
theorem hJ.laters (h:hJ E own pp c w S recs l tk d):(∀T,S.time≤T∧T≤1000000000→gZ S (dt c.life (⟨S.items,T⟩,recs) S.live).1∧(dt c.life (⟨S.items,T⟩,recs) S.live).1.time=T)∧∀t,tk=some t→gZ S (cQ S recs t).1∧(cQ S recs t).1.time=S.time:=by
 obtain ⟨K,y,v,q,z,A,L,o,b,g,f,p,a,r,s,u⟩:=h;refine ⟨fun T i=>?_,fun t e=>?_⟩
 ·obtain ⟨m,_,_,n⟩:=wq b f T i.2;exact ⟨m,n⟩
 ·rw [e] at a
  cases o with
  | none=>cases a
  | some x=>
   have e:x.t=t:=by simpa using a
   subst e;obtain ⟨j,_,k⟩:=oi b g f;exact ⟨j,k⟩
theorem hJ.chg (h:hJ E own pp c w S recs l tk d) (b:aF B w w') (t:∀k,E k→¬B k) (i:∀k,own k→¬B k):hJ E own pp c w' S recs l tk d:=by
 obtain ⟨K,y,u,q,z,A,L,m,n,f,o,p,r,s,a,g⟩:=h;obtain ⟨v,j⟩:=n.chg b t (fun k e=>i k (a k (.inl e)));refine ⟨K,y,u,q,z,A,L,m,v,?_,o,p,r,s,fun k e=>a k (e.imp (j k) id),fun k e=>⟨Nat.lt_of_lt_of_le (g k e).1 b.size,(g k e).2⟩⟩
 cases m with
 | none=>exact f
 | some x=>exact gM.kin f (ou.refl S) b (fun k e=>i k (a k (.inr e))) (fun k e=> .inl (j k e))
theorem hJ.below (h:hJ E own pp c w S recs l tk d) (a:Below w.heap.size w w'):hJ E own pp c w' S recs l tk d:=h.chg (aF.below a:aF (fun _=>False) w w') (fun _ _ e=>e) (fun _ _ e=>e)
theorem hJ.recv (h:hJ E own pp c w S recs l tk d) (n:Nat) {s:bA} (J:l[n]? =some (some s)) (a:List UInt8) (u:a.length≤1048576):
  Calls Tryz.prog 14 #[.pointer (some ⟨pp,0,none⟩),.int .i64 (n:Int),.string (bs a)] w fun e w'=>e= .returned (.tuple #[.string (bs (cH c (s,S,recs,[]) a).2.2.2),.int .i64 0])∧lE E own pp c w (cH c (s,S,recs,[]) a).2.1 (cH c (s,S,recs,[]) a).2.2.1 (l.set n (if (cH c (s,S,recs,[]) a).1.over then none else some (cH c (s,S,recs,[]) a).1)) tk (qU S (cH c (s,S,recs,[]) a).2.1 d) w':=by
 have f:=h.may;obtain ⟨K,F,D,q,X,G,L,j,r,m,P,I,Q,R,o,T⟩:=h;rw [←I] at J;obtain ⟨x,V,rfl⟩:=xU J;have b:=vH c a (x.s,S,recs,[]);refine (Ej r n V f a u).mono ?_;rintro e Y ⟨rfl,M,g,N,H,v,A,C⟩;obtain ⟨y,O⟩:∃y,cH c (x.s,S,recs,[]) a=y:=⟨_,rfl⟩;rw [O] at v A b ⊢
 have W:∀k,qL j k→¬dP w F D q X S G L k:=fun k e=>by
  cases j with
  | none=>cases e
  | some z=>exact m.fm k e
 have t:=r.post.bag.kn;refine ⟨rfl,fun k=>dP Y F D M g y.2.1 G (L.set n (if y.1.over then none else some ⟨x.sb,x.ch,N,H,y.1⟩)) k∨qL j k,⟨K,F,D,M,g,G,_,j,v,?_,P.kin b t r.keep.1,?_,Q,fun i U=>?_,fun k e=>e,fun k e=>?_⟩,fun k e=>?_,C.mono (fun k _ e=> .inr (o k (.inl e)))⟩
 ·cases j with
  | none=>exact m
  | some z=>exact gM.kin m b C (fun k e=>m.fm k e) A
 ·rw [List.map_set,I]
  congr 1
  cases y.1.over <;> rfl
 ·unfold qU
  by_cases p:i < S.items.length
  ·rw [if_pos p,b.due p];exact R i ((b.live p).1 U)
  ·rw [if_neg p];unfold bQ;rw [if_neg (by omega)]
 ·rcases e with e | e
  ·exact mA _ v e
  ·have:=T k (o k (.inr e));exact ⟨Nat.lt_of_lt_of_le this.1 C.size,this.2⟩
 ·rcases e with e | e
  ·exact (A k e).imp (fun e=>o k (.inl e)) id
  ·exact .inl (o k (.inr e))
theorem hJ.conn (h:hJ E own pp c w S recs l tk d) (a:Int) (y:0≤a) (H:a≤4294967295) (I:l.length < 100):
  Calls Tryz.prog 13 #[.pointer (some ⟨pp,0,none⟩),.int .i64 a] w fun e w'=>e= .returned (.tuple #[.int .i64 (l.length:Int),.string (bs (nZ c)),.int .i64 0])∧lE E own pp c w S recs (l++[some (gx c a)]) tk d w':=by
 obtain ⟨K,o,n,q,p,J,L,f,r,g,C,s,D,F,i,G⟩:=h;have b:L.length=l.length:=by rw [←s,List.length_map]
 refine (Dj r a y H (by rw [b];exact I)).mono ?_;rintro e M ⟨rfl,vs',sb,v,A,t,u,m⟩;rw [b]
 have j:∀k,qL f k→¬(k=pp∨dP w o n q p S J L k):=fun k e=>by
  cases f with
  | none=>cases e
  | some z=>exact fun x=>x.elim (fun x=>g.fe k e (by rw [x];exact r.post.epp)) (g.fm k e)
 refine ⟨rfl,fun k=>dP M o n q p S vs' (L++[some ⟨sb,v,A,.slice none 0 0,gx c a⟩]) k∨qL f k,⟨K,o,n,q,p,vs',_,f,t,?_,C,?_,D,F,fun k e=>e,fun k e=>?_⟩,fun k e=>?_,m.mono (fun k _ e=>e.imp id (fun e=>i k (.inl e)))⟩
 ·cases f with
  | none=>exact g
  | some z=>exact gM.kin g (ou.refl S) m j u
 ·rw [List.map_append,s];rfl
 ·rcases e with e | e
  ·exact mA _ t e
  ·have:=G k (i k (.inr e));exact ⟨Nat.lt_of_lt_of_le this.1 m.size,this.2⟩
 ·rcases e with e | e
  ·exact (u k e).imp (fun e=>i k (.inl e)) id
  ·exact .inl (i k (.inr e))
theorem hJ.connNo (h:hJ E own pp c w S recs l tk d) (a:Int) (i:¬l.length < 100):
  Calls Tryz.prog 13 #[.pointer (some ⟨pp,0,none⟩),.int .i64 a] w fun e w'=>e= .returned (.tuple #[.int .i64 0,.string ⟨#[]⟩,.int .i64 3])∧w=w':=by
 obtain ⟨K,s,r,q,t,u,L,v,f,j,k,g,m,n,o,p⟩:=h;have b:L.length=l.length:=by rw [←g,List.length_map]
 exact wY f a (fun e=>i (by rw [←b];exact e.2.2))
theorem hJ.close (h:hJ E own pp c w S recs l tk d) (n:Nat) {s:bA} (t:l[n]? =some (some s)):
  Calls Tryz.prog 34 #[.pointer (some ⟨pp,0,none⟩),.int .i64 (n:Int)] w fun e w'=>e= .returned (.int .i64 0)∧lE E own pp c w S recs (l.set n none) tk d w':=by
 obtain ⟨K,m,j,q,o,p,L,a,y,f,A,r,C,D,b,F⟩:=h;rw [←r] at t;obtain ⟨x,G,rfl⟩:=xU t;refine (wW y n G).mono ?_;rintro e H ⟨rfl,u,v,i⟩
 have g:∀k,qL a k→¬dP w m j q o S p L k:=fun k e=>by
  cases a with
  | none=>cases e
  | some z=>exact f.fm k e
 refine ⟨rfl,fun k=>dP H m j q o S p (L.set n none) k∨qL a k,⟨K,m,j,q,o,p,_,a,u,?_,A,?_,C,D,fun k e=>e,fun k e=>?_⟩,fun k e=>?_,i.mono (fun k _ e=> .inr (b k (.inl e)))⟩
 ·cases a with
  | none=>exact f
  | some z=>exact gM.kin f (ou.refl S) i g (fun k e=> .inl (v k e))
 ·rw [List.map_set,r];rfl
 ·rcases e with e | e
  ·exact mA _ u e
  ·have:=F k (b k (.inr e));exact ⟨Nat.lt_of_lt_of_le this.1 i.size,this.2⟩
 ·rcases e with e | e
  ·exact .inl (b k (.inl (v k e)))
  ·exact .inl (b k (.inr e))
theorem hJ.kept (h:hJ E own pp c w S recs l tk d):Calls Tryz.prog 17 #[.pointer (some ⟨pp,0,none⟩)] w fun e w'=>e= .returned (.tuple #[.string (bs recs),.int .i64 0])∧w=w':=by
 obtain ⟨K,o,n,q,p,r,L,s,a,b,f,g,i,j,k,m⟩:=h;exact Fz a.post
theorem hJ.queue (h:hJ E own pp c w S recs l tk d):Calls Tryz.prog 10 #[.pointer (some ⟨pp,0,none⟩)] w fun e w'=>∃v a,e= .returned (.tuple #[v,.int .i64 0])∧je w.heap.size w' v a∧a.map (·.1)=ji S.items∧Below w.heap.size w w':=by
 obtain ⟨K,p,o,q,r,s,L,t,b,f,g,i,j,k,m,n⟩:=h;exact Ef b.post b.keep.2.2 (by have:=b.keep.2.1.items;omega)
theorem hJ.tickNo (h:hJ E own pp c w S recs l tk d) (T:Int) (b:¬((S.time:Int)≤T∧T≤1000000000)):
  Calls Tryz.prog 23 #[.pointer (some ⟨pp,0,none⟩),.int .i64 T] w fun e w'=>e= .returned (.int .i64 3)∧w=w':=by
 obtain ⟨K,p,o,q,r,s,L,t,a,f,g,i,j,k,m,n⟩:=h;exact Ct a T b
theorem hJ.tickBusy {t:aP} (h:hJ E own pp c w S recs l (some t) d) (T:Int) (g:(S.time:Int)≤T∧T≤1000000000):
  Calls Tryz.prog 23 #[.pointer (some ⟨pp,0,none⟩),.int .i64 T] w fun e w'=>e= .returned (.int .i64 6)∧w=w':=by
 obtain ⟨K,r,p,q,s,u,L,i,a,b,j,k,f,m,n,o⟩:=h
 cases i with
 | none=>cases f
 | some x=>exact An a T g x.tb b.tk
theorem hJ.tick (h:hJ E own pp c w S recs l none d) (T:Nat) (m:S.time≤T∧T≤1000000000):
  Calls Tryz.prog 23 #[.pointer (some ⟨pp,0,none⟩),.int .i64 (T:Int)] w fun e w'=>e= .returned (.int .i64 0)∧lE E own pp c w (dt c.life (⟨S.items,T⟩,recs) S.live).1 (dt c.life (⟨S.items,T⟩,recs) S.live).2 l none (qU S (dt c.life (⟨S.items,T⟩,recs) S.live).1 d) w':=by
 obtain ⟨K,p,o,q,O,t,L,I,f,g,u,v,y,z,j,J⟩:=h
 cases I with
 | some x=>cases y
 | none=>
  obtain ⟨s,G,M,N⟩:=wq f u T m.2;refine (IE f T m g).mono ?_;rintro e H ⟨rfl,r,a,n,D,F⟩;have C:=f.post.bag.kn;refine ⟨rfl,dP H p o r a (dt c.life (⟨S.items,T⟩,recs) S.live).1 t L,⟨K,p,o,r,a,t,L,none,n,g,G,v,rfl,fun i A=>?_,fun k e=>e.elim id (fun e=>by cases e),fun k e=>mA _ n e⟩,fun k e=>(D k e).imp (fun e=>j k (.inl e)) id,F.mono (fun k _ e=> .inr (j k (.inl e)))⟩;unfold qU
  by_cases b:i < S.items.length
  ·rw [if_pos b,←z i (s.live A b)];unfold bQ;rw [s.mail i b]
  ·rw [if_neg b];unfold bQ;rw [if_neg (by omega)]
def yU (S S':aa) (d:Nat→Int×Int) (t:aP) (ws:List Int) (i:Nat):Int×Int:=if i=t.i then (S.time+j8 ws (d t.i).2,(d t.i).2+1) else qU S S' d i
theorem hJ.overTo {K:Kn} {b a:Nat} {q:Nat→Nat} {m f:Value} {L:List (Option dQ)} {x:ia} (n:@bJ K E pp b a c w q m S recs f L) (o:I4 K E pp b a w q m S f L (some x)) (p:@lT K S) (z:L.map (Option.map (·.s))=l) (r:∀i∈S.live,@bQ K S i=d i) (s:∀k,dP w b a q m S f L k∨qL (some x) k→own k) (C:rQ E pp b a c w q m S recs f L x w'):lE E own pp c w (cQ S recs x.t).1 (cQ S recs x.t).2 l none (yU S (cQ S recs x.t).1 d x.t c.waits) w':=by
 obtain ⟨y,g,u,D,F⟩:=C;obtain ⟨v,G,H⟩:=oi n o p;have A:=n.post.bag.kn;refine ⟨dP w' b a y g (cQ S recs x.t).1 f L,⟨_,b,a,y,g,f,L,none,u,rfl,Ea n o p (.pointer none),z,rfl,fun i t=>?_,fun k e=>e.elim id (fun e=>by cases e),fun k e=>mA _ u e⟩,fun k e=>(D k e).imp (fun e=>s k (.inl e)) id,F.mono (fun k _ e=>e.imp id (fun e=>s k (e.elim .inr .inl)))⟩;have e:@bQ (Kn.mk (il K (cQ S recs x.t).1 x.t.i (mz S x.t c.waits)).D0 (cQ S recs x.t).1.items.length (.pointer none)) (cQ S recs x.t).1 i=if i=x.t.i then mz S x.t c.waits else bQ (cQ S recs x.t).1 i:=if_pos (bm t);rw [e];unfold yU
 by_cases h:i=x.t.i
 ·rw [if_pos h,if_pos h];unfold mz;rw [r _ o.live]
 ·rw [if_neg h,if_neg h];unfold qU
  by_cases j:i < S.items.length
  ·rw [if_pos j,←r i (v.live t j)];unfold bQ;rw [v.mail i j]
  ·rw [if_neg j];unfold bQ;rw [if_neg (by omega)]
theorem hJ.hangIdle (h:hJ E own pp c w S recs l none d):Calls Tryz.prog 21 #[.pointer (some ⟨pp,0,none⟩)] w fun e w'=>e= .returned (.int .i64 5)∧w=w':=by
 obtain ⟨K,p,o,q,r,s,L,g,a,b,i,j,f,k,m,n⟩:=h
 cases g with
 | some x=>cases f
 | none=>exact zl a b
theorem hJ.hang {t:aP} (h:hJ E own pp c w S recs l (some t) d):Calls Tryz.prog 21 #[.pointer (some ⟨pp,0,none⟩)] w fun e w'=>e= .returned (.int .i64 0)∧lE E own pp c w (cQ S recs t).1 (cQ S recs t).2 l none (yU S (cQ S recs t).1 d t c.waits) w':=by
 obtain ⟨K,r,p,q,s,u,L,n,a,b,f,i,g,j,k,o⟩:=h
 cases n with
 | none=>cases g
 | some x=>
  have e:x.t=t:=by simpa using g
  subst e;refine (Iu a b f).mono ?_;rintro e v ⟨rfl,m⟩;exact ⟨rfl,hJ.overTo a b f i j k m⟩
theorem hJ.ansIdle (h:hJ E own pp c w S recs l none d) (a:Int):Calls Tryz.prog 33 #[.pointer (some ⟨pp,0,none⟩),.int .i64 a] w fun e w'=>e= .returned (.tuple #[.string ⟨#[]⟩,.int .i64 5])∧w=w':=by
 obtain ⟨K,r,p,q,s,t,L,i,b,f,j,k,g,m,n,o⟩:=h
 cases i with
 | some x=>cases g
 | none=>exact uh b f a
theorem hJ.ansEnd {t:aP} (h:hJ E own pp c w S recs l (some t) d) (p:t.said=6) (a:Nat) (n:200≤a∧a≤599):Calls Tryz.prog 33 #[.pointer (some ⟨pp,0,none⟩),.int .i64 (a:Int)] w fun e w'=>e= .returned (.tuple #[.string ⟨#[]⟩,.int .i64 0])∧lE E own pp c w (cQ S recs t).1 (cQ S recs t).2 l none (yU S (cQ S recs t).1 d t c.waits) w':=by
 obtain ⟨K,v,u,q,y,z,L,r,b,f,g,j,i,k,m,s⟩:=h
 cases r with
 | none=>cases i
 | some x=>
  have e:x.t=t:=by simpa using i
  subst e;refine (wJ b f g p a n).mono ?_;rintro e A ⟨rfl,o⟩;exact ⟨rfl,hJ.overTo b f g j k m o⟩
def GL (c:bT) (S:aa) (t:aP) (code:Nat):aP×List UInt8:=t.hear (cL c) (S.mailOf t.i).frm (lM (S.mailOf t.i).body) (code / 100)
theorem hJ.ans {t:aP} (h:hJ E own pp c w S recs l (some t) d) (C:t.said≠6) (a:Nat) (A:200≤a∧a≤599):Calls Tryz.prog 33 #[.pointer (some ⟨pp,0,none⟩),.int .i64 (a:Int)] w fun e w'=>e= .returned (.tuple #[.string (bs (GL c S t a).2),.int .i64 0])∧lE E own pp c w S recs l (some (GL c S t a).1) d w':=by
 obtain ⟨K,m,j,q,n,o,L,I,s,u,v,y,f,z,b,J⟩:=h
 cases I with
 | none=>cases f
 | some x=>
  have e:x.t=t:=by simpa using f
  subst e;refine (EW s u C a A).mono ?_;rintro e H ⟨rfl,p,r,g,i,D,F,G⟩;refine ⟨rfl,fun k=>dP H m j q n S o L k∨p.own k,⟨K,m,j,q,n,o,L,some p,g,i,v,y,congrArg some r,z,fun k e=>e,fun k e=>?_⟩,fun k e=>?_,G.mono (fun k _ e=> .inr (b k (.inr e)))⟩
  ·rcases e with e | e
   ·exact mA _ g e
   ·exact (Cu _ i).1 k e
  ·rcases e with e | e
   ·exact .inl (b k (.inl (D k e)))
   ·exact (F k e).imp (fun e=>b k (.inr e)) id
theorem hJ.dialBusy {t:aP} (h:hJ E own pp c w S recs l (some t) d):Calls Tryz.prog 22 #[.pointer (some ⟨pp,0,none⟩)] w fun e w'=>e= .returned (.tuple #[.int .i64 0,.int .i64 6])∧w=w':=by
 obtain ⟨K,p,o,q,r,s,L,g,a,b,i,j,f,k,m,n⟩:=h
 cases g with
 | none=>cases f
 | some x=>exact yW a x.tb b.tk
theorem hJ.dial (h:hJ E own pp c w S recs l none d):Calls Tryz.prog 22 #[.pointer (some ⟨pp,0,none⟩)] w fun e w'=>((∀i∈S.live,(S.time:Int) < (d i).1)∧e= .returned (.tuple #[.int .i64 0,.int .i64 5])∧lE E own pp c w S recs l none d w')∨∃i,i∈S.live∧(d i).1≤S.time∧e= .returned (.tuple #[.int .i64 ((i:Int)+1),.int .i64 0])∧lE E own pp c w S recs l (some (jm S i)) d w':=by
 have u:=h;obtain ⟨K,r,p,q,s,t,L,M,v,y,z,A,C,g,D,N⟩:=h
 cases M with
 | some x=>cases C
 | none=>
  refine (Ip v y).mono ?_;rintro e J (⟨a,b,f⟩ | ⟨i,x,a,b,f,o,m,G,H,I⟩)
  ·exact .inl ⟨fun i n=>by rw [←g i n];exact a i n,b,own,u.below f,fun k e=> .inl e,aF.below f⟩
  ·have F:∀j,@bQ (Kn.mk K.D0 K.n0 (.pointer (some ⟨x.tb,0,none⟩))) S j=@bQ K S j:=fun j=>rfl;refine .inr ⟨i,a,by have:=(Cu _ m).2;rw [F,b] at this;rw [←g i a];exact this,f,fun k=>dP J r p q s S t L k∨x.own k,⟨_,r,p,q,s,t,L,some x,o,m,z,A,congrArg some b,g,fun k e=>e,fun k e=>?_⟩,fun k e=>?_,I.mono (fun k _ e=> .inl e)⟩
   ·rcases e with e | e
    ·exact mA _ o e
    ·exact (Cu _ m).1 k e
   ·rcases e with e | e
    ·exact .inl (D k (.inl (G k e)))
    ·exact .inr (H k e)
end
structure GS where
 S:aa
 recs:List UInt8
 l:List (Option bA)
 tk:Option aP
 d:Nat→Int×Int
 seats:List bV
 mails:List aR
 bad:Bool
def fQ (c:bT) (g:GS) (n:Nat) (s:bA) (x:bV) (l:List UInt8):GS where
 S:=(aO c s g.S g.recs l false).2.1
 recs:=(aO c s g.S g.recs l false).2.2.1
 l:=g.l.set n (if (aO c s g.S g.recs l false).1.over then none else some (aO c s g.S g.recs l false).1)
 tk:=g.tk
 d:=qU g.S (aO c s g.S g.recs l false).2.1 g.d
 seats:=g.seats.set n (gv x l (aO c s g.S g.recs l false).2.2.2.flatten)
 mails:=g.mails++fy x l (aO c s g.S g.recs l false).2.2.2.flatten
 bad:=g.bad || cZ x l (aO c s g.S g.recs l false).2.2.2.flatten
def CL (c:bT) (g:GS) (addr:Int):GS:={g with l:=g.l++[some (gx c addr)],seats:=g.seats++[⟨addr,false,false,false,[]⟩]}
def wo (c:bT) (g:GS) (T:Nat):GS:={g with S:=(dt c.life (⟨g.S.items,T⟩,g.recs) g.S.live).1,recs:=(dt c.life (⟨g.S.items,T⟩,g.recs) g.S.live).2,d:=qU g.S (dt c.life (⟨g.S.items,T⟩,g.recs) g.S.live).1 g.d}
def zQ (c:bT) (g:GS) (t:aP):GS:={g with S:=(cQ g.S g.recs t).1,recs:=(cQ g.S g.recs t).2,tk:=none,d:=yU g.S (cQ g.S g.recs t).1 g.d t c.waits}
def AQ (g:GS) (n:Nat) (x:bV):GS:={g with l:=g.l.set n none,seats:=g.seats.set n {x with closed:=true}}
inductive iA (c:bT):GS→GS→Prop
 | line (g:GS) (n:Nat) (s:bA) (x:bV) (l:List UInt8) (hl:l∈LL) (hs:g.l[n]? =some (some s)) (hx:g.seats[n]? =some x):iA c g (fQ c g n s x l)
 | conn (g:GS) (addr:Int) (h0:0≤addr) (h1:addr < 1000) (hl:g.l.length < 100):iA c g (CL c g addr)
 | tick (g:GS) (T:Nat) (hT:g.S.time≤T∧T≤1000000000) (ht:g.tk=none):iA c g (wo c g T)
 | dial (g:GS) (i:Nat) (hi:i∈g.S.live) (hd:(g.d i).1≤g.S.time) (ht:g.tk=none):iA c g {g with tk:=some (jm g.S i)}
 | ans (g:GS) (t:aP) (code:Nat) (hc:200≤code∧code≤599) (hs:t.said≠6) (ht:g.tk=some t):iA c g {g with tk:=some (GL c g.S t code).1}
 | over (g:GS) (t:aP) (ht:g.tk=some t):iA c g (zQ c g t)
 | close (g:GS) (n:Nat) (s:bA) (x:bV) (hs:g.l[n]? =some (some s)) (hx:g.seats[n]? =some x):iA c g (AQ g n x)
inductive fK (c:bT):Nat→GS→GS→Prop
 | nil (g:GS):fK c 0 g g
 | snoc {k:Nat} {g g' g'':GS} (h:fK c k g g') (s:iA c g' g''):fK c (k+1) g g''
theorem fK.one {c:bT} {g g':GS} (h:iA c g g'):fK c 1 g g':= .snoc (.nil g) h
theorem fK.trans {c:bT} {k m:Nat} {g g' a:GS} (h:fK c k g g') (b:fK c m g' a):fK c (k+m) g a:=by
 induction b with
 | nil=>exact h
 | snoc _ s ih=>exact .snoc (ih h) s
structure eQ (c:bT):Prop where
 doms:c.doms=mj
 nets:c.nets=[(256,24)]
 may:iL c=true
structure iq (g:GS):Prop where
 len:g.seats.length=g.l.length
 seat:∀(n:Nat) (x:bV) (o:Option bA),g.seats[n]? =some x→g.l[n]? =some o→dW x o
 bad:g.bad=false
 ids:∀m∈g.mails,m.id≤g.S.items.length
 tos:∀m∈g.mails,m.tos.length≤10
 more:g.mails.length≤g.S.items.length
 told:∀i,i < g.S.items.length→(∀m∈g.mails,m.id=i+1→∀t∈(g.S.mailOf i).tos,t∈m.tos)∧((∀m∈g.mails,m.id≠i+1)→vh (g.S.mailOf i))
theorem mZ {α:Type} {l:List α} {n m:Nat} {v y:α} (h:(l.set n v)[m]? =some y):(m=n∧v=y)∨(m≠n∧l[m]? =some y):=by
 by_cases e:n=m
 ·subst e
  by_cases a:n < l.length
  ·rw [List.getElem?_set_self a] at h;exact .inl ⟨rfl,by injection h⟩
  ·rw [List.getElem?_eq_none (by simp;omega)] at h
   cases h
 ·rw [List.getElem?_set_ne e] at h;exact .inr ⟨Ne.symm e,h⟩
theorem xX {α:Type} {l:List α} {v y:α} {n:Nat} (h:(l++[v])[n]? =some y):(n=l.length∧v=y)∨(n < l.length∧l[n]? =some y):=by
 by_cases a:n < l.length
 ·rw [List.getElem?_append_left a] at h;exact .inr ⟨a,h⟩
 ·rw [List.getElem?_append_right (by omega)] at h
  by_cases e:n - l.length=0
  ·rw [e] at h;exact .inl ⟨by omega,by injection h⟩
  ·rw [List.getElem?_eq_none (by simp;omega)] at h
   cases h
section
variable {c:bT} {g g':GS}
theorem iq.later (h:iq g) {f:aa} (j:gZ g.S f) (a:List UInt8) (l:Option aP) (n:Nat→Int×Int):iq {g with S:=f,recs:=a,tk:=l,d:=n}:=by
 refine ⟨h.len,h.seat,h.bad,fun m k=>Nat.le_trans (h.ids m k) j.len,h.tos,Nat.le_trans h.more j.len,fun i o=>?_⟩
 by_cases b:i < g.S.items.length
 ·show (∀m∈g.mails,m.id=i+1→∀t∈(f.mailOf i).tos,t∈m.tos)∧((∀m∈g.mails,m.id≠i+1)→vh (f.mailOf i));rw [j.mail i b];exact h.told i b
 ·exact ⟨fun m k e=>by have:=h.ids m k;omega,fun _=>j.new i (by omega) o⟩
theorem FR {c:bT} (a:c.nets=[(256,24)]) {addr:Int}:(gx c addr).nets=true→addr / 256=1:=by
 intro h;have h:c.nets.any (iC addr)=true:=h;rw [a] at h;simp only [List.any_cons,List.any_nil,Bool.or_false] at h;unfold iC at h;have h:=of_decide_eq_true h;have e:(2:Int) ^ ((32:Int) - 24).toNat=256:=by decide
 simp only [e] at h;omega
theorem FV (e:eQ c) {a:Int} (b:0≤a) (d:a < 1000):jV ⟨a,false,false,false,[]⟩ (gx c a):=
 ⟨rfl,rfl,rfl,rfl,rfl,rfl,FR e.nets,(fun t f=>by cases f),b,d⟩
theorem iq.step (H:eQ c) (h:iq g) (J:iA c g g') (P:∀(n:Nat) (s:bA),g.l[n]? =some (some s)→iv c s g.S g.recs) (I:(∀T,g.S.time≤T∧T≤1000000000→gZ g.S (dt c.life (⟨g.S.items,T⟩,g.recs) g.S.live).1)∧∀t,g.tk=some t→gZ g.S (cQ g.S g.recs t).1):iq g':=by
 cases J with
 | line n s x l hll hsn hx=>
  have G:=h.seat n x _ hx hsn;obtain ⟨a,b,e⟩:=pT (S:=g.S) (recs:=g.recs) (rG hll) H.doms G;have D:(fQ c g n s x l).seats.length=(fQ c g n s x l).l.length:=by show (g.seats.set ..).length=(g.l.set ..).length;rw [List.length_set,List.length_set];exact h.len
  have r:∀(m:Nat) (y:bV) (o:Option bA),(fQ c g n s x l).seats[m]? =some y→(fQ c g n s x l).l[m]? =some o→dW y o:=fun m y o A B=>by
   rcases mZ A with ⟨k,p⟩ | ⟨k,p⟩
   ·rcases mZ B with ⟨f,j⟩ | ⟨f,j⟩
    ·rw [←p,←j];exact a
    ·exact absurd k f
   ·rcases mZ B with ⟨f,j⟩ | ⟨f,j⟩
    ·exact absurd f k
    ·exact h.seat m y o p j
  have v:(fQ c g n s x l).bad=false:=by show (g.bad || _)=false;rw [h.bad,b];rfl
  rcases e with ⟨k,f,M⟩ | ⟨t,b,k,f,M,R,N,O,U,V⟩
  ·have u:(fQ c g n s x l).mails=g.mails:=by show g.mails++_=_;rw [k,List.append_nil]
   have w:(fQ c g n s x l).S=g.S:=f;exact ⟨D,r,v,by rw [u,w];exact h.ids,by rw [u];exact h.tos,by rw [u,w];exact h.more,by rw [u,w];exact h.told⟩
  ·have u:(fQ c g n s x l).mails=g.mails++[⟨g.S.items.length+1,0,[],t.tos,[]⟩]:=by show g.mails++_=_;rw [N]
   have w:(fQ c g n s x l).S=g.S.plus (eH g.S t.frm t.tos b.text):=O;have q:(g.S.plus (eH g.S t.frm t.tos b.text)).items.length=g.S.items.length+1:=dz ..;have z:=((P n s hsn).tx t k).1.most;refine ⟨D,r,v,?_,?_,?_,?_⟩
   ·rw [u,w,q];intro m d
    rcases List.mem_append.1 d with d | d
    ·have:=h.ids m d;omega
    ·rw [List.mem_singleton.1 d];exact Nat.le_refl _
   ·rw [u];intro m d
    rcases List.mem_append.1 d with d | d
    ·exact h.tos m d
    ·rw [List.mem_singleton.1 d];exact z
   ·rw [u,w,q,List.length_append,List.length_singleton];have:=h.more;omega
   ·rw [u,w,q];intro i E
    by_cases C:i < g.S.items.length
    ·rw [jw C];obtain ⟨K,L⟩:=h.told i C;refine ⟨fun m d e=>?_,fun F=>L fun m d=>F m (List.mem_append.2 (.inl d))⟩
     rcases List.mem_append.1 d with d | d
     ·exact K m d e
     ·rw [List.mem_singleton.1 d] at e;have e:g.S.items.length+1=i+1:=e;omega
    ·obtain rfl:i=g.S.items.length:=by omega
     rw [fD];refine ⟨fun m d e=>?_,fun F=>absurd rfl (F _ (List.mem_append.2 (.inr (List.mem_singleton.2 rfl))))⟩
     rcases List.mem_append.1 d with d | d
     ·have:=h.ids m d;omega
     ·rw [List.mem_singleton.1 d];exact fun y Q=>Q
 | conn addr h0 A hll=>
  refine ⟨by show (g.seats++[_]).length=(g.l++[_]).length;rw [List.length_append,List.length_append,h.len];rfl,fun m y o g1 g2=>?_,h.bad,h.ids,h.tos,h.more,h.told⟩
  rcases xX g1 with ⟨k,p⟩ | ⟨k,p⟩
  ·rcases xX g2 with ⟨f,j⟩ | ⟨f,j⟩
   ·rw [←p,←j];exact FV H h0 A
   ·rw [h.len] at k;omega
  ·rcases xX g2 with ⟨f,j⟩ | ⟨f,j⟩
   ·rw [h.len] at k;omega
   ·exact h.seat m y o p j
 | tick T hT ht=>exact h.later (I.1 T hT) _ g.tk _
 | dial i E hd ht=>exact ⟨h.len,h.seat,h.bad,h.ids,h.tos,h.more,h.told⟩
 | ans t code hcc J ht=>exact ⟨h.len,h.seat,h.bad,h.ids,h.tos,h.more,h.told⟩
 | over t ht=>exact h.later (I.2 t ht) _ none _
 | close n s x hsn hx=>
  refine ⟨by show (g.seats.set ..).length=(g.l.set ..).length;rw [List.length_set,List.length_set];exact h.len,fun m y o A B=>?_,h.bad,h.ids,h.tos,h.more,h.told⟩
  rcases mZ A with ⟨k,p⟩ | ⟨k,p⟩
  ·rcases mZ B with ⟨f,j⟩ | ⟨f,j⟩
   ·rw [←p,←j];rfl
   ·exact absurd k f
  ·rcases mZ B with ⟨f,j⟩ | ⟨f,j⟩
   ·exact absurd f k
   ·exact h.seat m y o p j
end
def cT (x:bV) (v:Value):List Value:=[.int .i64 x.addr,.bool x.known,.bool x.inside,.bool x.closed,v]
def gz (l:List (bV×Value)):List Value:=l.flatMap fun x=>cT x.1 x.2
theorem Cg (l:List (bV×Value)) (k i:Nat) (h:k < l.length) (b:i < 5):(gz l)[k * 5+i]? =(cT l[k].1 l[k].2)[i]? :=by
 induction l generalizing k with
 | nil=>simp at h
 | cons x l ih=>
  show (cT x.1 x.2++gz l)[k * 5+i]? =_;have a:(cT x.1 x.2).length=5:=rfl
  cases k with
  | zero=>
   rw [List.getElem?_append_left (by rw [a];omega)];simp
  | succ k=>
   rw [List.getElem?_append_right (by rw [a];omega),a,show (k+1) * 5+i - 5=k * 5+i by omega]
   exact ih k (by simpa using h)
theorem xT (l:List (bV×Value)) (x:bV×Value):gz (l++[x])=gz l++cT x.1 x.2:=by simp [gz]
theorem z8 {l:List (bV×Value)} {k i:Nat} (h:k < l.length) (d:i < 5) {u:Value} {y:bV×Value} (b:cT y.1 y.2=(cT l[k].1 l[k].2).set i u):(gz l).set (k * 5+i) u=gz (l.set k y):=by
 induction l generalizing k with
 | nil=>simp at h
 | cons x l ih=>
  have a:(cT x.1 x.2).length=5:=rfl
  cases k with
  | zero=>
   show (cT x.1 x.2++gz l).set (0 * 5+i) u=cT y.1 y.2++gz l;rw [b,List.set_append_left _ _ (by rw [a];omega)];simp
  | succ k=>
   show (cT x.1 x.2++gz l).set ((k+1) * 5+i) u=cT x.1 x.2++gz (l.set k y);rw [List.set_append_right _ _ (by rw [a];omega),a,show (k+1) * 5+i - 5=k * 5+i by omega,ih (by simpa using h) (by simpa using b)]
theorem Gb {w:World} {g a n f j:Nat} {t:TypeId} {x:Value} {i:List Value} (h:w.ownsRow 0 t f (.slice (some ⟨g,0,none⟩) n a) n i):(w.setCell ⟨g,j,none⟩ x).ownsRow 0 t f (.slice (some ⟨g,0,none⟩) n a) n (i.set j x):=by
 refine ⟨by rw [List.length_set];exact h.1,?_⟩
 rcases h.2 with ⟨e,_⟩ | ⟨r,q,b,e,k,l,m,o,p,d⟩
 ·cases e
 ·injection e with e1 _ e3;injection e1 with e1;injection e1 with e1;subst e1 e3;refine .inr ⟨g,a,b.setIfInBounds j x,rfl,k,heap_setCell_same w g j _ _ x l,m,o,by simp [p],?_⟩
  rw [Array.toList_setIfInBounds,List.take_set,d]
def fM (gb:Nat) (vS vM:Value) (k:Nat):Prop:=k=gb∨vS.ownBlock=some k∨vM.ownBlock=some k
structure ib (E own:Nat→Prop) (gb:Nat) (vS vM:Value) (w:World) (tos:List (List UInt8)) (v:Value):Prop where
 row:aZ w v tos.length 1 (az tos)
 off:∀k,v.ownBlock=some k→k < w.heap.size∧¬E k∧¬own k∧¬fM gb vS vM k
structure gL (E own:Nat→Prop) (pp gb:Nat) (c:bT) (w:World) (vS vM:Value) (sl:List (bV×Value)) (ml:List (aR×Value)) (g:GS):Prop where
 post:hJ E own pp c w g.S g.recs g.l g.tk g.d
 blk:∃C:Array Value,w.heap[gb]? =some (.cells C 41 (0,0))∧C.size=14∧C[0]? =some (.pointer (some ⟨pp,0,none⟩))∧C[10]? =some vS∧C[11]? =some vM∧C[12]? =some (.int .i64 g.S.time)∧C[13]? =some (.bool g.bad)
 srow:w.ownsRow 0 51 5 vS sl.length (gz sl)
 mrow:w.ownsRow 0 45 5 vM ml.length (fv ml)
 seq:sl.map (·.1)=g.seats
 meq:ml.map (·.1)=g.mails
 stos:∀x∈sl,ib E own gb vS vM w x.1.tos x.2
 mtos:∀x∈ml,ib E own gb vS vM w x.1.tos x.2
 off:∀k,fM gb vS vM k→k < w.heap.size∧¬E k∧¬own k
section
variable {E own own' B:Nat→Prop} {pp gb:Nat} {c:bT} {w w':World} {vS vM vS' vM':Value} {sl:List (bV×Value)} {ml:List (aR×Value)} {g:GS} {tos:List (List UInt8)} {v:Value}
theorem ib.chg (h:ib E own gb vS vM w tos v) (i:aF B w w') (j:∀k,v.ownBlock=some k→¬B k) (m:∀k,own' k→own k∨w.heap.size≤k) (l:∀k,fM gb vS' vM' k→fM gb vS vM k∨w.heap.size≤k):ib E own' gb vS' vM' w' tos v:=
 ⟨h.row.chg i j,fun k e=>by
  obtain ⟨a,b,d,f⟩:=h.off k e
  exact ⟨Nat.lt_of_lt_of_le a i.size,b,fun x=>(m k x).elim d (fun x=>by omega),fun x=>(l k x).elim f (fun x=>by omega)⟩⟩
theorem ib.nil (w:World):ib E own gb vS vM w [] (.slice none 0 0):=⟨aC (World.ownsRow_nil _ _ _ _:w.ownsRow 0 9 1 (.slice none 0 0) 0 []),fun k e=>by cases e⟩
theorem gL.tag (h:gL E own pp gb c w vS vM sl ml g):(∀k,vS.ownBlock=some k→k≠gb∧vM.ownBlock≠some k)∧∀k,vM.ownBlock=some k→k≠gb:=by
 obtain ⟨C,f,_⟩:=h.blk;refine ⟨fun k e=>?_,fun k e x=>?_⟩
 ·obtain ⟨d,a⟩:=cX h.srow e;refine ⟨fun x=>?_,fun x=>?_⟩
  ·rw [x,f] at a;injection a with a;injection a with _ a _;exact absurd a (by decide)
  ·obtain ⟨i,b⟩:=cX h.mrow x;rw [a] at b;injection b with b;injection b with _ b _;exact absurd b (by decide)
 ·obtain ⟨d,a⟩:=cX h.mrow e;rw [x,f] at a;injection a with a;injection a with _ a _;exact absurd a (by decide)
theorem gL.call (h:gL E own pp gb c w vS vM sl ml g) {m:aa} {b:List UInt8} {q:List (Option bA)} {j:Option aP} {p:Nat→Int×Int} (u:lE E own pp c w m b q j p w') (y:m.time=g.S.time):∃own',gL E own' pp gb c w' vS vM sl ml {g with S:=m,recs:=b,l:=q,tk:=j,d:=p}∧(∀k,own' k→own k∨w.heap.size≤k)∧aF (fun k=>k=pp∨own k) w w':=by
 obtain ⟨own',z,o,i⟩:=u;have a:∀k,fM gb vS vM k→¬(k=pp∨own k):=fun k e x=>x.elim (fun x=>(h.off k e).2.1 (by rw [x];exact h.post.epp)) (h.off k e).2.2;have f:∀{tos:List (List UInt8)} {v:Value},ib E own gb vS vM w tos v→ib E own' gb vS vM w' tos v:=fun t=>t.chg i (fun k e x=>x.elim (fun x=>(t.off k e).2.1 (by rw [x];exact h.post.epp)) (t.off k e).2.2.1) o (fun k e=> .inl e);obtain ⟨C,r,s⟩:=h.blk;exact ⟨own',⟨z,⟨C,i.some_ r (a _ (.inl rfl)),by show _∧_∧_∧_∧C[12]? =some (.int .i64 m.time)∧_;rw [y];exact s⟩,br h.srow i (fun k e=>a k (.inr (.inl e))),br h.mrow i (fun k e=>a k (.inr (.inr e))),h.seq,h.meq,fun x n=>f (h.stos x n),fun x n=>f (h.mtos x n),fun k e=>⟨Nat.lt_of_lt_of_le (h.off k e).1 i.size,(h.off k e).2.1,fun x=>(o k x).elim (h.off k e).2.2 (fun x=>by have:=(h.off k e).1;omega)⟩⟩,o,i⟩
theorem gL.turn (h:gL E own pp gb c w vS vM sl ml g) (i:aF (fM gb vS vM) w w') {sl':List (bV×Value)} {ml':List (aR×Value)} {bad':Bool}
  (f:∃C:Array Value,w'.heap[gb]? =some (.cells C 41 (0,0))∧C.size=14∧C[0]? =some (.pointer (some ⟨pp,0,none⟩))∧C[10]? =some vS'∧C[11]? =some vM'∧C[12]? =some (.int .i64 g.S.time)∧C[13]? =some (.bool bad'))
  (l:w'.ownsRow 0 51 5 vS' sl'.length (gz sl')) (j:w'.ownsRow 0 45 5 vM' ml'.length (fv ml')) (b:∀k,fM gb vS' vM' k→fM gb vS vM k∨w.heap.size≤k)
  (p:∀x∈sl',ib E own gb vS vM w x.1.tos x.2) (o:∀x∈ml',ib E own gb vS vM w x.1.tos x.2):gL E own pp gb c w' vS' vM' sl' ml' {g with seats:=sl'.map (·.1),mails:=ml'.map (·.1),bad:=bad'}:=by
 have m:∀{tos:List (List UInt8)} {v:Value},ib E own gb vS vM w tos v→ib E own gb vS' vM' w' tos v:=fun t=>t.chg i (fun k e=>(t.off k e).2.2.2) (fun k e=> .inl e) b
 have a:∀k,fM gb vS' vM' k→k < w'.heap.size:=fun k e=>by
  rcases e with e | e | e
  ·obtain ⟨C,n,_⟩:=f;rw [e];exact ah n
  ·exact (j6 l e).2
  ·exact (j6 j e).2
 exact ⟨h.post.chg i (fun k e x=>(h.off k x).2.1 e) (fun k e x=>(h.off k x).2.2 e),f,l,j,rfl,rfl,fun x d=>m (p x d),fun x d=>m (o x d),fun k e=>⟨a k e,(b k e).elim (fun x=>(h.off k x).2.1) (fun x y=>by have:=h.post.elt y;omega),(b k e).elim (fun x=>(h.off k x).2.2) (fun x y=>by have:=h.post.lt y;omega)⟩⟩
theorem gL.below (h:gL E own pp gb c w vS vM sl ml g) (a:Below w.heap.size w w'):gL E own pp gb c w' vS vM sl ml g:=by
 have b:aF (fun _=>False) w w':=aF.below a;have f:∀{tos:List (List UInt8)} {v:Value},ib E own gb vS vM w tos v→ib E own gb vS vM w' tos v:=fun t=>t.chg b (fun k e x=>x) (fun k e=> .inl e) (fun k e=> .inl e);obtain ⟨C,i,j⟩:=h.blk;exact ⟨h.post.below a,⟨C,ae a i,j⟩,br h.srow b (fun _ _ x=>x),br h.mrow b (fun _ _ x=>x),h.seq,h.meq,fun x d=>f (h.stos x d),fun x d=>f (h.mtos x d),fun k e=>⟨Nat.lt_of_lt_of_le (h.off k e).1 a.size,(h.off k e).2⟩⟩
theorem gL.same (h:gL E own pp gb c w vS vM sl ml g) {a:GS} (e:g=a):gL E own pp gb c w vS vM sl ml a:=by rw [←e];exact h
theorem gL.cells (h:gL E own pp gb c w vS vM sl ml g):w.cell? ⟨gb,0,none⟩=some (.pointer (some ⟨pp,0,none⟩))∧w.cell? ⟨gb,10,none⟩=some vS∧w.cell? ⟨gb,11,none⟩=some vM∧w.cell? ⟨gb,12,none⟩=some (.int .i64 g.S.time)∧w.cell? ⟨gb,13,none⟩=some (.bool g.bad)∧∀j,w.frozen? ⟨gb,j,none⟩=false:=by
 obtain ⟨C,a,k,b,d,e,f,i⟩:=h.blk;refine ⟨by rw [Lib.cell_of_heap a];exact b,by rw [Lib.cell_of_heap a];exact d,by rw [Lib.cell_of_heap a];exact e,by rw [Lib.cell_of_heap a];exact f,by rw [Lib.cell_of_heap a];exact i,fun j=>Lib.frozen_of_heap a j⟩
theorem gL.slen (h:gL E own pp gb c w vS vM sl ml g):sl.length=g.seats.length:=by rw [←h.seq,List.length_map]
theorem gL.mlen (h:gL E own pp gb c w vS vM sl ml g):ml.length=g.mails.length:=by rw [←h.meq,List.length_map]
theorem gL.seat (h:gL E own pp gb c w vS vM sl ml g) {n:Nat} (o:n < sl.length):∃sb a,vS= .slice (some ⟨sb,0,none⟩) sl.length a∧(∀i,i < 5→w.cell? ⟨sb,n * 5+i,none⟩=(cT sl[n].1 sl[n].2)[i]?)∧∀j,w.frozen? ⟨sb,j,none⟩=false:=by
 rcases h.srow.2 with ⟨_,p⟩ | ⟨l,f,k,e,_,d,_,_,_,b⟩
 ·omega
 ·refine ⟨l,f,e,fun i m=>?_,fun j=>Lib.frozen_of_heap d j⟩;rw [Lib.cell_of_heap d,←Array.getElem?_toList,←List.getElem?_take_of_lt (show n * 5+i < sl.length * 5 by omega),b,Cg _ _ _ o m]
theorem FK {α β:Type} {l:List (α×β)} (n:Nat) (y:α×β):(l.set n y).map (·.1)=(l.map (·.1)).set n y.1:=by rw [List.map_set]
theorem gL.putS (h:gL E own pp gb c w vS vM sl ml g) {n i sb l:Nat} (z:n < sl.length) (t:i < 5) (o:vS= .slice (some ⟨sb,0,none⟩) sl.length l) {u:Value} {y:bV×Value} (D:cT y.1 y.2=(cT sl[n].1 sl[n].2).set i u) (A:ib E own gb vS vM w y.1.tos y.2):gL E own pp gb c (w.setCell ⟨sb,n * 5+i,none⟩ u) vS vM (sl.set n y) ml {g with seats:=g.seats.set n y.1}∧aF (fM gb vS vM) w (w.setCell ⟨sb,n * 5+i,none⟩ u):=by
 have a:vS.ownBlock=some sb:=by rw [o];rfl
 have m:aF (fun k=>k=sb) w (w.setCell ⟨sb,n * 5+i,none⟩ u):=aF.same ((aH.refl _ _).setCell _);have b:aF (fM gb vS vM) w (w.setCell ⟨sb,n * 5+i,none⟩ u):=m.mono (fun k _ e=>by rw [e];exact .inr (.inl a));obtain ⟨C,r,s⟩:=h.blk;have q:=h.srow;rw [o] at q;have d:=Gb (j:=n * 5+i) (x:=u) q;rw [z8 z t D,←o] at d
 have p:=h.turn (vS':=vS) (vM':=vM) (sl':=sl.set n y) (ml':=ml) (bad':=g.bad) b ⟨C,m.some_ r (fun e=>((h.tag).1 sb a).1 e.symm),s⟩ (by rw [List.length_set];exact d) (br h.mrow m (fun k e x=>((h.tag).1 sb a).2 (by rw [←x];exact e))) (fun k e=> .inl e) (fun x f=>by
  rcases List.mem_or_eq_of_mem_set f with f | f
  ·exact h.stos x f
  ·rw [f];exact A) h.mtos
 rw [FK,h.seq,h.meq] at p;exact ⟨p,b⟩
theorem gL.putB (h:gL E own pp gb c w vS vM sl ml g) (b:Bool):gL E own pp gb c (w.setCell ⟨gb,13,none⟩ (.bool b)) vS vM sl ml {g with bad:=b}∧aF (fM gb vS vM) w (w.setCell ⟨gb,13,none⟩ (.bool b)):=by
 have d:aF (fun k=>k=gb) w (w.setCell ⟨gb,13,none⟩ (.bool b)):=aF.same ((aH.refl _ _).setCell _);have a:aF (fM gb vS vM) w (w.setCell ⟨gb,13,none⟩ (.bool b)):=d.mono (fun k _ e=> .inl e);obtain ⟨C,i,j,l,m,n,o,q⟩:=h.blk;have p:=heap_setCell_same w gb 13 _ _ (.bool b) i;have f:=h.turn (vS':=vS) (vM':=vM) (sl':=sl) (ml':=ml) (bad':=b) a ⟨_,p,by simpa using j,by rw [Array.getElem?_setIfInBounds_ne (by decide)];exact l,by rw [Array.getElem?_setIfInBounds_ne (by decide)];exact m,by rw [Array.getElem?_setIfInBounds_ne (by decide)];exact n,by rw [Array.getElem?_setIfInBounds_ne (by decide)];exact o,by rw [Array.getElem?_setIfInBounds_self_of_lt (by omega)]⟩ (br h.srow d (fun k e=>((h.tag).1 k e).1)) (br h.mrow d (fun k e=>(h.tag).2 k e)) (fun k e=> .inl e) h.stos h.mtos
 rw [h.seq,h.meq] at f;exact ⟨f,a⟩
end
end Go.Proofs.YtofpegbpgkkgkaaGreatDoor
