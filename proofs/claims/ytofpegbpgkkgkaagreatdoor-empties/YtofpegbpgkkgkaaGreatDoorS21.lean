import Derived.Test.YtofpegbpgkkgkaaGreatDoorS19
import Derived.Test.YtofpegbpgkkgkaaGreatDoorS20
namespace Go.Proofs.YtofpegbpgkkgkaaGreatDoor
set_option maxHeartbeats 8000000
set_option maxRecDepth 1000000
open Go.RowKit
section
variable {E B:Nat→Prop} {pp pb mb:Nat} {c:bX} {w w':World} {q:Nat→Nat} {vr:Value} {S:aa} {recs:List UInt8} {vs:Value} {l:List (Option eH)} {x:eH}
theorem bQ.clt [Kn] (_:bQ E pp pb mb c w q vr S recs vs l) {n:Nat} (d:l[n]? =some (some x)):n < (l.map fC).length∧∃a:n < (l.map fC).length,(l.map fC)[n]= .pointer (some ⟨x.sb,0,none⟩):=by
 obtain ⟨b,e⟩:=List.getElem?_eq_some_iff.1 d;have a:n < (l.map fC).length:=by rw [List.length_map];exact b
 exact ⟨a,a,by rw [List.getElem_map,e];rfl⟩
theorem bQ.drop [Kn] (h:bQ E pp pb mb c w q vr S recs vs l) {g d n:Nat} (j:vs= .slice (some ⟨g,0,none⟩) (l.map fC).length d) (u:n < (l.map fC).length):bQ E pp pb mb c (w.setCell ⟨g,n,none⟩ (.pointer none)) q vr S recs vs (l.set n none)∧(∀k,ee (w.setCell ⟨g,n,none⟩ (.pointer none)) pb mb q vr S vs (l.set n none) k→ee w pb mb q vr S vs l k)∧aH (ee w pb mb q vr S vs l) w (w.setCell ⟨g,n,none⟩ (.pointer none)):=by
 obtain ⟨A,p,r⟩:=h.post.put (x:= .pointer none) j u;have b:vs.ownBlock=some g:=by rw [j];rfl
 have a:∀{m:Nat} {y:eH},(l.set n none)[m]? =some (some y)→m≠n∧l[m]? =some (some y):=fun e=>by
  rcases qY e with ⟨_,e⟩ | e
  ·cases e
  ·exact e
 refine ⟨⟨by rw [En];exact A,fun m y i=>?_,fun v z C D f s t=>h.apart v z C D f (a s).2 (a t).2,by rw [List.length_set];exact h.len,h.keep⟩,fun k e=>?_,r.mono (fun k _ e=> .inr (.inl (by rw [e];exact b)))⟩
 ·have o:=h.ok m y (a i).2;exact o.chg r (fun k e x=>o.fs k e (by rw [x];exact b)) p
 ·rcases e with e | e | ⟨m,y,i,e⟩
  ·exact .inl (p k e)
  ·exact .inr (.inl e)
  ·exact .inr (.inr ⟨m,y,(a i).2,e⟩)
theorem yK [Kn] (h:bQ E pp pb mb c w q vr S recs vs l) (n:Nat) (y:l[n]? =some (some x)):
  Calls Tryz.prog 34 #[.pointer (some ⟨pp,0,none⟩),.int .i64 (n:Int)] w fun e w'=>e= .returned (.int .i64 0)∧bQ E pp pb mb c w' q vr S recs vs (l.set n none)∧(∀k,ee w' pb mb q vr S vs (l.set n none) k→ee w pb mb q vr S vs l k)∧aH (ee w pb mb q vr S vs l) w w':=by
 obtain ⟨d,_,j⟩:=h.clt y;have p:(l.map fC).length≤100:=by rw [List.length_map];exact h.len
 have s:=Lib.hid (uo h.post n d p _ j);have b:=h.post.cell10;obtain ⟨g,t,u,f,i,a⟩:=h.post.at d;have z:w.cell? ⟨g,n,none⟩=some (.pointer (some ⟨x.sb,0,none⟩)):=by rw [Lib.cell_of_heap i,a,j]
 have A:=Lib.frozen_of_heap i n;have v:(n:Int) < ((l.map fC).length:Int):=by omega
 have r:=Lib.hid (h.drop f d);rw [f] at b;obtain ⟨m,o⟩:∃m,(l.map fC).length=m:=⟨_,rfl⟩;rw [o] at b v p;clear h j f i a o d;go_enter Tryz.func34,Tryz.ntmps34;go_wp2_with fail
 refine s.out.mono ?_;rintro e w' ⟨rfl,rfl⟩;go_wp2_with fail
 go_ret;exact ⟨rfl,r.out⟩
def Kq [Kn] (E:Nat→Prop) (pp pb mb:Nat) (c:bX) (w:World) (q:Nat→Nat) (vr:Value) (S:aa) (vs:Value) (l:List (Option eH)) (n sb ch:Nat) (s':bG) (S':aa) (recs':List UInt8) (w':World):Prop:=
 ∃q' vr' A' vw',bQ E pp pb mb c w' q' vr' S' recs' vs (l.set n (if s'.over then none else some ⟨sb,ch,A',vw',s'⟩))∧(∀k,ee w' pb mb q' vr' S' vs (l.set n (if s'.over then none else some ⟨sb,ch,A',vw',s'⟩)) k→ee w pb mb q vr S vs l k∨w.heap.size≤k)∧aH (ee w pb mb q vr S vs l) w w'
theorem FK [Kn] (h:bQ E pp pb mb c w q vr S recs vs l) (n:Nat) (g:l[n]? =some (some x)) (f:ij c=true) (a:List UInt8) (p:a.length≤1048576):
  Calls Tryz.prog 14 #[.pointer (some ⟨pp,0,none⟩),.int .i64 (n:Int),.string (bs a)] w fun e w'=>e= .returned (.tuple #[.string (bs (cL c (x.s,S,recs,[]) a).2.2.2),.int .i64 0])∧Kq E pp pb mb c w q vr S vs l n x.sb x.ch (cL c (x.s,S,recs,[]) a).1 (cL c (x.s,S,recs,[]) a).2.1 (cL c (x.s,S,recs,[]) a).2.2.1 w':=by
 obtain ⟨o,_,v⟩:=h.clt g;have D:(l.map fC).length≤100:=by rw [List.length_map];exact h.len
 have t:=(h.ok n x g).inv;have d:=(qO f a (x.s,S,recs,[]) t).1;refine (Bz (h.one g) t n o D v a p).mono ?_;rintro e F ⟨rfl,m,A,k,b,j,r,z⟩;obtain ⟨y,C⟩:∃y,cL c (x.s,S,recs,[]) a=y:=⟨_,rfl⟩;rw [C] at j r d ⊢;refine ⟨rfl,A,k,m,b,?_⟩
 cases u:y.1.over with
 | true=>
  rw [u] at j;exact h.heard g d (.inr rfl) j r z
 | false=>
  rw [u] at j;refine h.heard g d (.inl rfl) ?_ r z
  have e:(l.map fC).set n (fC (some ⟨x.sb,x.ch,m,b,y.1⟩))=l.map fC:=by
   apply List.ext_getElem?;intro i
   by_cases s:n=i
   ·subst s;rw [List.getElem?_set_self o,List.getElem?_eq_getElem o,v];rfl
   ·rw [List.getElem?_set_ne s]
  show gY E pp pb mb c F A k y.2.1 y.2.2.1 vs ((l.map fC).set n (fC (some ⟨x.sb,x.ch,m,b,y.1⟩))) x.sb x.ch m b y.1;rw [e];exact j
theorem yM [Kn] (h:bQ E pp pb mb c w q vr S recs vs l) (b:Int) (k:¬(0≤b∧b≤4294967295∧l.length < 100)):
  Calls Tryz.prog 13 #[.pointer (some ⟨pp,0,none⟩),.int .i64 b] w fun e w'=>e= .returned (.tuple #[.int .i64 0,.string ⟨#[]⟩,.int .i64 3])∧w=w':=by
 have d:=h.post.cell10;obtain ⟨a,j,g⟩:=aE (aF h.post.row);have f:(l.map fC).length=l.length:=List.length_map ..;have m:=h.len;rw [g,f] at d;clear h g
 by_cases n:b < 0
 ·go_enter Tryz.func13,Tryz.ntmps13;go_wp2_with fail
  refine bodyPost_ret (v:= .tuple #[.int .i64 0,.string ⟨#[]⟩,.int .i64 3]) (by simp [results,Tryz.results13,go_sem]) rfl ?_;exact ⟨rfl,rfl⟩
 ·by_cases o:(4294967295:Int) < b
  ·go_enter Tryz.func13,Tryz.ntmps13;go_wp2_with fail
   refine bodyPost_ret (v:= .tuple #[.int .i64 0,.string ⟨#[]⟩,.int .i64 3]) (by simp [results,Tryz.results13,go_sem]) rfl ?_;exact ⟨rfl,rfl⟩
  ·have i:l.length=100:=by omega
   rw [i] at d;clear k i m f;go_enter Tryz.func13,Tryz.ntmps13;go_wp2_with fail
   refine bodyPost_ret (v:= .tuple #[.int .i64 0,.string ⟨#[]⟩,.int .i64 3]) (by simp [results,Tryz.results13,go_sem]) rfl ?_;exact ⟨rfl,rfl⟩
theorem nC {l:List (Option eH)} {v:Option eH} {n:Nat} {y:eH} (h:(l++[v])[n]? =some (some y)):(n=l.length∧v=some y)∨(n < l.length∧l[n]? =some (some y)):=by
 by_cases a:n < l.length
 ·rw [List.getElem?_append_left a] at h;exact .inr ⟨a,h⟩
 ·rw [List.getElem?_append_right (by omega)] at h
  by_cases e:n - l.length=0
  ·rw [e] at h;exact .inl ⟨by omega,by injection h⟩
  ·rw [List.getElem?_eq_none (by simp;omega)] at h
   cases h
def Kp [Kn] (E:Nat→Prop) (pp pb mb:Nat) (c:bX) (w:World) (q:Nat→Nat) (vr:Value) (S:aa) (recs:List UInt8) (vs:Value) (l:List (Option eH)) (addr:Int) (w':World):Prop:=
 ∃vs' sb ch A,bQ E pp pb mb c w' q vr S recs vs' (l++[some ⟨sb,ch,A,.slice none 0 0,dI c addr⟩])∧(∀k,ee w' pb mb q vr S vs' (l++[some ⟨sb,ch,A,.slice none 0 0,dI c addr⟩]) k→ee w pb mb q vr S vs l k∨w.heap.size≤k)∧aH (fun k=>k=pp∨ee w pb mb q vr S vs l k) w w'
theorem EI [Kn] (h:bQ E pp pb mb c w q vr S recs vs l) (a:Int) (M:0≤a) (N:a≤4294967295) (O:l.length < 100):
  Calls Tryz.prog 13 #[.pointer (some ⟨pp,0,none⟩),.int .i64 a] w fun e w'=>e= .returned (.tuple #[.int .i64 (l.length:Int),.string (bs (mX c)),.int .i64 0])∧Kp E pp pb mb c w q vr S recs vs l a w':=by
 have j:(l.map fC).length=l.length:=List.length_map ..;refine (An h.post a M N (by rw [j];exact O)).mono ?_;rintro e T ⟨rfl,sb,r,C,g,P,Q,F,G,H⟩;rw [j];refine ⟨rfl,C,sb,r,fun k=>k=sb∨k=r,?_⟩
 have A:∀(m:Nat) (y:eH),l[m]? =some (some y)→∀k,y.own k→¬(k=pp∨vs.ownBlock=some k):=fun m y d k e x=>by
  have o:=h.ok m y d
  rcases x with x | x
  ·exact o.fe k e (by rw [x];exact h.post.epp)
  ·exact o.fs k e x
 have b:∀k,(eH.mk sb r (fun k=>k=sb∨k=r) (.slice none 0 0) (dI c a)).own k→w.heap.size≤k:=fun k e=>by
  rcases e with (e | e) | e
  ·rw [e];exact P
  ·rw [e];exact Q
  ·cases e
 have R:gM c (dI c a) S recs:=⟨(fun t e=>by cases e),h.keep.1,h.keep.2.1,h.keep.2.2,by show ([]:List UInt8).length≤102;decide⟩
 refine ⟨⟨by rw [List.map_append];exact g.post,fun m y d=>?_,fun I J K L n g1 g2 k s u=>?_,by rw [List.length_append];simp only [List.length_cons,List.length_nil];omega,h.keep⟩,fun k e=>?_,H.mono (fun k _ e=>e.imp id (fun e=> .inr (.inl e)))⟩
 ·rcases nC d with ⟨_,e⟩ | ⟨_,d⟩
  ·injection e with e;subst e;exact ⟨g.ses,g.wrow,R,fun k e y=>e.elim (fun e=>g.ea k y e) (fun e=>(g.wd k e).1 y),fun k e y=>e.elim (fun e=>g.ab k e y) (fun e=>(g.wd k e).2.2 y),fun k e y=>e.elim (fun e=>(g.sa k y).1 e) (fun e=>(g.sa k y).2 e),fun k e=>(g.wd k e).2.1⟩
  ·have o:=h.ok m y d;have i:=o.chg H (A m y d) G;exact ⟨i.ses,i.row,i.inv,i.fe,i.fb,fun k e x=>(F k x).elim (o.fs k e) (fun x=>by have:=o.lt e;omega),i.fw⟩
 ·rcases nC g1 with ⟨D,v⟩ | ⟨D,g1⟩
  ·rcases nC g2 with ⟨p,_⟩ | ⟨p,g2⟩
   ·exact n (D.trans p.symm)
   ·injection v with v;subst v;have:=(h.ok J L g2).lt u;have:=b k s;omega
  ·rcases nC g2 with ⟨p,z⟩ | ⟨p,g2⟩
   ·injection z with z;subst z;have:=(h.ok I K g1).lt s;have:=b k u;omega
   ·exact h.apart I J K L n g1 g2 k s u
 ·rcases e with e | e | ⟨m,y,d,e⟩
  ·exact .inl (.inl (G k e))
  ·exact (F k e).imp (fun e=> .inr (.inl e)) id
  ·rcases nC d with ⟨_,f⟩ | ⟨_,d⟩
   ·injection f with f;subst f;exact .inr (b k e)
   ·exact .inl (.inr (.inr ⟨m,y,d,e⟩))
end
section
variable {E:Nat→Prop} {pp pb mb:Nat} {c:bX} {w:World} {q:Nat→Nat} {vr:Value} {S:aa} {recs:List UInt8} {vs:Value} {l:List (Option eH)}
theorem Ay [K:Kn] (h:bQ E pp pb mb c w q vr S recs vs l) (d:Nat) (b:K.tk= .pointer (some ⟨d,0,none⟩)):
  Calls Tryz.prog 22 #[.pointer (some ⟨pp,0,none⟩)] w fun e f=>e= .returned (.tuple #[.int .i64 0,.int .i64 6])∧w=f:=by
 have a:=h.post.cell11;rw [b] at a;clear h;go_enter Tryz.func22,Tryz.ntmps22;go_wp2_with fail
 go_ret2
 exact ⟨rfl,rfl⟩
def jM (S:aa) (i:Nat):aQ:=⟨i,0,S.stayOf i,[],[]⟩
theorem uL (S:aa) (i:Nat):dC (S.stayOf i) (jM S i):=by
 have e:(jM S i).act=(S.stayOf i).map (·.1):=by
  rw [lG (by show 0≠6;omega)];simp [jM]
 refine ⟨by show 0≤6;omega,(fun h=>by cases h),?_,fun x d=>by rw [e] at d;exact d,by rw [e,List.length_map];exact Nat.le_refl _,fun x d=>by simpa [jM] using d⟩
 rw [e];exact (rX _ _).imp fun {a b} h=>by omega
def D3 [K:Kn] (E:Nat→Prop) (pp pb mb:Nat) (c:bX) (w:World) (q:Nat→Nat) (vr:Value) (S:aa) (recs:List UInt8) (vs:Value) (l:List (Option eH)) (e:Ending) (w':World):Prop:=
 ((∀i∈S.live,(S.time:Int) < (bV S i).1)∧e= .returned (.tuple #[.int .i64 0,.int .i64 5])∧Below w.heap.size w w')∨
 ∃(i:Nat) (x:iJ),i∈S.live∧x.t=jM S i∧e= .returned (.tuple #[.int .i64 ((i:Int)+1),.int .i64 0])∧@bQ (Kn.mk K.D0 K.n0 (.pointer (some ⟨x.tb,0,none⟩))) E pp pb mb c w' q vr S recs vs l∧@hY (Kn.mk K.D0 K.n0 (.pointer (some ⟨x.tb,0,none⟩))) E pp pb mb w' q vr S vs l x∧(∀k,ee w' pb mb q vr S vs l k→ee w pb mb q vr S vs l k)∧(∀k,x.own k→w.heap.size≤k)∧aH (fun k=>k=pp) w w'
theorem D3.of [K:Kn] {i a f B:Nat} {va:Value} {w1 g:World} (d:bQ E pp pb mb c w q vr S recs vs l) (h:i∈S.live) (r:(bV S i).1≤S.time) (C:w.heap.size≤B) (v:w1.ownsRow B 162 2 va (S.stayOf i).length (aR (S.stayOf i))) (b:Below w.heap.size w g) (t:w.heap.size≤w1.heap.size) (o:bR g a f pp pb va va (.slice none 0 0) (S.mailOf i).frm (S.mailOf i).body (S.stayOf i).length false (jM S i)) (u:w1.heap.size≤a) (p:w1.heap.size≤f):
  D3 E pp pb mb c w q vr S recs vs l (.returned (.tuple #[.int .i64 ((i:Int)+1),.int .i64 0])) (g.setCell ⟨pp,11,none⟩ (.pointer (some ⟨a,0,none⟩))):=by
 obtain ⟨x,j⟩:=d.below b;obtain ⟨y,m,n⟩:=x.retalk (.pointer (some ⟨a,0,none⟩))
 have own:∀k,lA a f va (.slice none 0 0) k→w.heap.size≤k:=fun k e=>by
  rcases e with e | e | e | e
  ·omega
  ·omega
  ·have:=(v.lt k e).1;omega
  ·cases e
 have s:=d.post.lt pp d.post.epp;refine .inr ⟨i,⟨a,f,va,va,.slice none 0 0,jM S i⟩,h,rfl,rfl,y,@hY.mk (Kn.mk K.D0 K.n0 (.pointer (some ⟨a,0,none⟩))) _ _ _ _ _ _ _ _ _ _ _ rfl (o.chg n (fun k e A=>by have:=own k e;omega)) h (uL S i) r (fun k e z=>by have:=own k e;have:=d.post.lt k z;omega) (fun k e z=>by have:=own k e;have:=d.olt (j k (m k z));omega),fun k e=>j k (m k e),own,(aH.below b:aH (fun k=>k=pp) w g).trans n (fun _ _ e=>e)⟩
theorem JW [K:Kn] (f:bQ E pp pb mb c w q vr S recs vs l) (ht:K.tk= .pointer none):
  Calls Tryz.prog 22 #[.pointer (some ⟨pp,0,none⟩)] w (D3 E pp pb mb c w q vr S recs vs l):=by
 have Q:=f.post.cell11;rw [ht] at Q;have c9:=f.post.cell9;have T:=f.keep.2.1.items;have HL:=Lib.hid (Bb 0 pb mb q vr S (bV S) w f.post.bag.inn f.post.bag.due f.keep.2.2 (by omega));have Z:=Lib.hid f;have a3:pp < w.heap.size:=f.post.lt pp f.post.epp
 have r:Hid (∀W:World,Below w.heap.size w W→W.cell? ⟨pp,11,none⟩=some (.pointer none)∧W.frozen? ⟨pp,11,none⟩=false∧W.cell? ⟨pp,9,none⟩=some (.pointer (some ⟨pb,0,none⟩))):=Lib.hid (fun W hb=>by
  obtain ⟨X,_⟩:=f.below hb;have a:=X.post.cell11;rw [ht] at a
  exact ⟨a,X.post.froz 11,X.post.cell9⟩)
 clear f T;go_enter Tryz.func22,Tryz.ntmps22;go_wp2_with fail
 refine HL.out.mono ?_;rintro e d ⟨t,U⟩;have y:=Lib.hid t;have C:w.heap.size≤d.heap.size:=t.size;clear t
 rcases U with ⟨i,hi,hd,a,x,rfl,hv⟩ | ⟨A,rfl⟩
 ·obtain ⟨b,o⟩:∃b:World,d.alloc (.cells #[.int .i64 ((i:Int)+1),.string (bs (S.mailOf i).frm),.slice a (S.stayOf i).length x,.string (bs (S.mailOf i).body)] 104)=b:=⟨_,rfl⟩;have G:Below d.heap.size d b:=by rw [←o];exact (Below.refl _ _).alloc (Nat.le_refl _) _
  have s:b.heap[d.heap.size]? =some (.cells #[.int .i64 ((i:Int)+1),.string (bs (S.mailOf i).frm),.slice a (S.stayOf i).length x,.string (bs (S.mailOf i).body)] 104 (0,0)):=by rw [←o];exact heap_alloc_new d _
  have m0:b.drew.cell? ⟨d.heap.size,0,none⟩=some (.int .i64 ((i:Int)+1)):=by show b.cell? _=_;rw [Lib.cell_of_heap s];rfl
  have m1:b.drew.cell? ⟨d.heap.size,1,none⟩=some (.string (bs (S.mailOf i).frm)):=by show b.cell? _=_;rw [Lib.cell_of_heap s];rfl
  have m2:b.drew.cell? ⟨d.heap.size,2,none⟩=some (.slice a (S.stayOf i).length x):=by show b.cell? _=_;rw [Lib.cell_of_heap s];rfl
  have m3:b.drew.cell? ⟨d.heap.size,3,none⟩=some (.string (bs (S.mailOf i).body)):=by show b.cell? _=_;rw [Lib.cell_of_heap s];rfl
  have v:b.drew.ownsRow w.heap.size 162 2 (.slice a (S.stayOf i).length x) (S.stayOf i).length (aR (S.stayOf i)):=aA hv fun _ _ e _=>ae G e;have a4:=dk Z.out.keep.2.2 i;have g:=Lib.hid (xk pp pb i w.heap.size (S.mailOf i).frm (S.mailOf i).body (.slice a (S.stayOf i).length x) (S.stayOf i) b.drew v (by omega));have F:Below w.heap.size w b.drew:=(y.out.trans (G.mono C)).drew;obtain ⟨_,_,d9⟩:=r.out b.drew F;have z:=Lib.hid F;have j:=Lib.hid s;have h:=Lib.hid o;have O:=Lib.hid v;have u:w.heap.size≤b.drew.heap.size:=F.size;have a0:d.heap.size < b.drew.heap.size:=ah s;clear G s o hv v F;obtain ⟨fr,m⟩:∃fr,(S.mailOf i).frm=fr:=⟨_,rfl⟩;obtain ⟨bo,k⟩:∃bo,(S.mailOf i).body=bo:=⟨_,rfl⟩;obtain ⟨ln,n⟩:∃ln,(S.stayOf i).length=ln:=⟨_,rfl⟩;rw [m] at m1 g h j;rw [k] at m3 g h j;rw [n] at m2 g h j;have J:=Lib.hid m;have I:=Lib.hid k;have L:=Lib.hid n;rw [m,k,n];clear m k n;go_wp2_with fail
  rw [h.out];go_wp2_with fail
  go_region_law (first
   | (go_simp;go_at_call 48;refine g.out.mono ?_;rintro e Y ⟨tb,ch,rfl,D,V,R,p⟩;obtain ⟨a1,a2,_⟩:=r.out Y (z.out.trans (p.mono u));have x3:=ae p j.out;have N:=Lib.hid D;have H:=Lib.hid (z.out.trans (p.mono u));have P:=Lib.hid x3;clear D p x3;dsimp only))
  all_goals
   have HF:=Lib.hid (D3.of (B:=w.heap.size) (w1:=b.drew) (va:= .slice a (S.stayOf i).length x) Z.out hi hd (Nat.le_refl _) O.out H.out u (by rw [J.out,I.out,L.out];exact N.out) V R)
   have y0:(Y.setCell ⟨pp,11,none⟩ (.pointer (some ⟨tb,0,none⟩))).cell? ⟨d.heap.size,0,none⟩=some (.int .i64 ((i:Int)+1)):=by
    rw [Lib.cell_of_heap (aP ((aL.refl pp Y).setCell _) P.out (by omega))];rfl
   go_wp2_with fail
   go_ret2
   exact HF.out
 ·have M:=Lib.hid A;clear A;go_wp2_with fail
  go_ret2
  exact .inl ⟨M.out,rfl,y.out.alloc C _⟩
end
def Kt (K:Kn) (E:Nat→Prop) (pp pb mb:Nat) (w:World) (q:Nat→Nat) (vr:Value) (S:aa) (vs:Value) (L:List (Option eH)):Option iJ→Prop
 | none=>K.tk= .pointer none
 | some x=>@hY K E pp pb mb w q vr S vs L x
def r7:Option iJ→Nat→Prop
 | none,_=>False
 | some x,k=>x.own k
def iC (E own:Nat→Prop) (pp:Nat) (c:bX) (w:World) (S:aa) (recs:List UInt8) (l:List (Option bG)) (tk:Option aQ) (d:Nat→Int×Int):Prop:=
 ∃(K:Kn) (pb mb:Nat) (q:Nat→Nat) (vr vs:Value) (L:List (Option eH)) (xo:Option iJ),@bQ K E pp pb mb c w q vr S recs vs L∧Kt K E pp pb mb w q vr S vs L xo∧@mJ K S∧L.map (Option.map (·.s))=l∧xo.map (·.t)=tk∧(∀i∈S.live,@bV K S i=d i)∧(∀k,ee w pb mb q vr S vs L k∨r7 xo k→own k)∧∀k,own k→k < w.heap.size∧¬E k
def oS (S S':aa) (d:Nat→Int×Int) (i:Nat):Int×Int:=if i < S.items.length then d i else (((S'.mailOf i).time:Int),0)
def mr (E own:Nat→Prop) (pp:Nat) (c:bX) (w:World) (S:aa) (recs:List UInt8) (l:List (Option bG)) (tk:Option aQ) (d:Nat→Int×Int) (w':World):Prop:=
 ∃own',iC E own' pp c w' S recs l tk d∧(∀k,own' k→own k∨w.heap.size≤k)∧aH (fun k=>k=pp∨own k) w w'
theorem zw {L:List (Option eH)} {n:Nat} {s:bG} (h:(L.map (Option.map (·.s)))[n]? =some (some s)):∃x,L[n]? =some (some x)∧x.s=s:=by
 rw [List.getElem?_map] at h
 cases e:L[n]? with
 | none=>rw [e] at h;cases h
 | some o=>
  rw [e] at h
  cases o with
  | none=>cases h
  | some x=>exact ⟨x,rfl,by simpa using h⟩
theorem nz (K:Kn) {E:Nat→Prop} {pp b a:Nat} {c:bX} {w:World} {q:Nat→Nat} {f:Value} {S:aa} {recs:List UInt8} {g:Value} {L:List (Option eH)} (h:@bQ K E pp b a c w q f S recs g L) {k:Nat} (e:ee w b a q f S g L k):k < w.heap.size∧¬E k:=⟨h.olt e,fun z=>h.eo z e⟩
theorem DV (K:Kn) {E:Nat→Prop} {pp b a:Nat} {w:World} {q:Nat→Nat} {f:Value} {S:aa} {g:Value} {L:List (Option eH)} {x:iJ} (h:@hY K E pp b a w q f S g L x):(∀k,x.own k→k < w.heap.size∧¬E k)∧(bV S x.t.i).1≤S.time:=⟨fun k e=>⟨bR.lt h.at_ e,h.fe k e⟩,h.due⟩
section
variable {E own B:Nat→Prop} {pp:Nat} {c:bX} {w w':World} {S:aa} {recs:List UInt8} {l:List (Option bG)} {tk:Option aQ} {d:Nat→Int×Int}
theorem iC.lt (h:iC E own pp c w S recs l tk d) {k:Nat} (e:own k):k < w.heap.size:=by
 obtain ⟨K,p,o,q,r,s,L,t,b,f,g,i,j,m,n,a⟩:=h;exact (a k e).1
theorem iC.off (h:iC E own pp c w S recs l tk d) {k:Nat} (e:own k):¬E k:=by
 obtain ⟨K,p,o,q,r,s,L,t,b,f,g,i,j,m,n,a⟩:=h;exact (a k e).2
theorem iC.elt (h:iC E own pp c w S recs l tk d) {k:Nat} (e:E k):k < w.heap.size:=by
 obtain ⟨K,p,o,q,r,s,L,t,a,b,f,g,i,j,m,n⟩:=h;exact @dR.lt K _ _ _ _ _ _ _ _ _ _ _ _ a.post k e
theorem iC.epp (h:iC E own pp c w S recs l tk d):E pp:=by
 obtain ⟨K,n,m,q,o,p,L,r,a,b,e,f,g,i,j,k⟩:=h;exact a.post.epp
theorem iC.glo (h:iC E own pp c w S recs l tk d):iR w:=by
 obtain ⟨K,n,m,q,o,p,L,r,a,b,e,f,g,i,j,k⟩:=h;exact a.post.glo
theorem iC.may (h:iC E own pp c w S recs l tk d):ij c=true:=by
 obtain ⟨K,o,n,q,v,x,L,y,a,e,f,g,i,j,k,m⟩:=h;obtain ⟨r,s,t,u,b,p⟩:=a.post.set;exact b.may
theorem iC.len (h:iC E own pp c w S recs l tk d):l.length≤100:=by
 obtain ⟨K,n,m,q,o,p,L,r,a,e,f,b,g,i,j,k⟩:=h;rw [←b,List.length_map];exact a.len
theorem iC.sok (h:iC E own pp c w S recs l tk d):oK (S,recs):=by
 obtain ⟨K,n,m,q,o,p,L,r,a,b,e,f,g,i,j,k⟩:=h;exact a.sok
theorem iC.inv (h:iC E own pp c w S recs l tk d) {n:Nat} {s:bG} (a:l[n]? =some (some s)):gM c s S recs:=by
 obtain ⟨K,r,p,q,t,u,L,v,b,g,i,e,j,k,m,o⟩:=h;rw [←e] at a;obtain ⟨x,f,rfl⟩:=zw a;exact (b.ok n x f).inv
theorem iC.talk {t:aQ} (h:iC E own pp c w S recs l (some t) d):t.i∈S.live∧dC (S.stayOf t.i) t∧(d t.i).1≤S.time:=by
 obtain ⟨K,p,o,q,r,s,L,g,i,a,j,k,b,f,m,n⟩:=h
 cases g with
 | none=>cases b
 | some x=>
  have e:x.t=t:=by simpa using b
  subst e;exact ⟨a.live,a.ok,by rw [←f _ a.live];exact a.due⟩
theorem iC.laters (h:iC E own pp c w S recs l tk d):(∀T,S.time≤T∧T≤1000000000→iB S (dw c.life (⟨S.items,T⟩,recs) S.live).1∧(dw c.life (⟨S.items,T⟩,recs) S.live).1.time=T)∧∀t,tk=some t→iB S (cV S recs t).1∧(cV S recs t).1.time=S.time:=by
 obtain ⟨K,y,v,q,z,A,L,o,b,g,f,p,a,r,s,u⟩:=h;refine ⟨fun T i=>?_,fun t e=>?_⟩
 ·obtain ⟨m,_,_,n⟩:=yk b f T i.2;exact ⟨m,n⟩
 ·rw [e] at a
  cases o with
  | none=>cases a
  | some x=>
   have e:x.t=t:=by simpa using a
   subst e;obtain ⟨j,_,k⟩:=o9 b g f;exact ⟨j,k⟩
theorem iC.chg (h:iC E own pp c w S recs l tk d) (b:aH B w w') (t:∀k,E k→¬B k) (i:∀k,own k→¬B k):iC E own pp c w' S recs l tk d:=by
 obtain ⟨K,y,u,q,z,A,L,m,n,f,o,p,r,s,a,g⟩:=h;obtain ⟨v,j⟩:=n.chg b t (fun k e=>i k (a k (.inl e)));refine ⟨K,y,u,q,z,A,L,m,v,?_,o,p,r,s,fun k e=>a k (e.imp (j k) id),fun k e=>⟨Nat.lt_of_lt_of_le (g k e).1 b.size,(g k e).2⟩⟩
 cases m with
 | none=>exact f
 | some x=>exact hY.kin f (oj.refl S) b (fun k e=>i k (a k (.inr e))) (fun k e=> .inl (j k e))
theorem iC.below (h:iC E own pp c w S recs l tk d) (a:Below w.heap.size w w'):iC E own pp c w' S recs l tk d:=h.chg (aH.below a:aH (fun _=>False) w w') (fun _ _ e=>e) (fun _ _ e=>e)
theorem iC.recv (h:iC E own pp c w S recs l tk d) (n:Nat) {s:bG} (J:l[n]? =some (some s)) (a:List UInt8) (u:a.length≤1048576):
  Calls Tryz.prog 14 #[.pointer (some ⟨pp,0,none⟩),.int .i64 (n:Int),.string (bs a)] w fun e w'=>e= .returned (.tuple #[.string (bs (cL c (s,S,recs,[]) a).2.2.2),.int .i64 0])∧mr E own pp c w (cL c (s,S,recs,[]) a).2.1 (cL c (s,S,recs,[]) a).2.2.1 (l.set n (if (cL c (s,S,recs,[]) a).1.over then none else some (cL c (s,S,recs,[]) a).1)) tk (oS S (cL c (s,S,recs,[]) a).2.1 d) w':=by
 have f:=h.may;obtain ⟨K,F,D,q,X,G,L,j,r,m,P,I,Q,R,o,T⟩:=h;rw [←I] at J;obtain ⟨x,V,rfl⟩:=zw J;have b:=xH c a (x.s,S,recs,[]);refine (FK r n V f a u).mono ?_;rintro e Y ⟨rfl,M,g,N,H,v,A,C⟩;obtain ⟨y,O⟩:∃y,cL c (x.s,S,recs,[]) a=y:=⟨_,rfl⟩;rw [O] at v A b ⊢
 have W:∀k,r7 j k→¬ee w F D q X S G L k:=fun k e=>by
  cases j with
  | none=>cases e
  | some z=>exact m.fm k e
 have t:=r.post.bag.kn;refine ⟨rfl,fun k=>ee Y F D M g y.2.1 G (L.set n (if y.1.over then none else some ⟨x.sb,x.ch,N,H,y.1⟩)) k∨r7 j k,⟨K,F,D,M,g,G,_,j,v,?_,P.kin b t r.keep.1,?_,Q,fun i U=>?_,fun k e=>e,fun k e=>?_⟩,fun k e=>?_,C.mono (fun k _ e=> .inr (o k (.inl e)))⟩
 ·cases j with
  | none=>exact m
  | some z=>exact hY.kin m b C (fun k e=>m.fm k e) A
 ·rw [List.map_set,I]
  congr 1
  cases y.1.over <;> rfl
 ·unfold oS
  by_cases p:i < S.items.length
  ·rw [if_pos p,b.due p];exact R i ((b.live p).1 U)
  ·rw [if_neg p];unfold bV;rw [if_neg (by omega)]
 ·rcases e with e | e
  ·exact nz _ v e
  ·have:=T k (o k (.inr e));exact ⟨Nat.lt_of_lt_of_le this.1 C.size,this.2⟩
 ·rcases e with e | e
  ·exact (A k e).imp (fun e=>o k (.inl e)) id
  ·exact .inl (o k (.inr e))
theorem iC.conn (h:iC E own pp c w S recs l tk d) (a:Int) (y:0≤a) (H:a≤4294967295) (I:l.length < 100):
  Calls Tryz.prog 13 #[.pointer (some ⟨pp,0,none⟩),.int .i64 a] w fun e w'=>e= .returned (.tuple #[.int .i64 (l.length:Int),.string (bs (mX c)),.int .i64 0])∧mr E own pp c w S recs (l++[some (dI c a)]) tk d w':=by
 obtain ⟨K,o,n,q,p,J,L,f,r,g,C,s,D,F,i,G⟩:=h;have b:L.length=l.length:=by rw [←s,List.length_map]
 refine (EI r a y H (by rw [b];exact I)).mono ?_;rintro e M ⟨rfl,vs',sb,v,A,t,u,m⟩;rw [b]
 have j:∀k,r7 f k→¬(k=pp∨ee w o n q p S J L k):=fun k e=>by
  cases f with
  | none=>cases e
  | some z=>exact fun x=>x.elim (fun x=>g.fe k e (by rw [x];exact r.post.epp)) (g.fm k e)
 refine ⟨rfl,fun k=>ee M o n q p S vs' (L++[some ⟨sb,v,A,.slice none 0 0,dI c a⟩]) k∨r7 f k,⟨K,o,n,q,p,vs',_,f,t,?_,C,?_,D,F,fun k e=>e,fun k e=>?_⟩,fun k e=>?_,m.mono (fun k _ e=>e.imp id (fun e=>i k (.inl e)))⟩
 ·cases f with
  | none=>exact g
  | some z=>exact hY.kin g (oj.refl S) m j u
 ·rw [List.map_append,s];rfl
 ·rcases e with e | e
  ·exact nz _ t e
  ·have:=G k (i k (.inr e));exact ⟨Nat.lt_of_lt_of_le this.1 m.size,this.2⟩
 ·rcases e with e | e
  ·exact (u k e).imp (fun e=>i k (.inl e)) id
  ·exact .inl (i k (.inr e))
theorem iC.connNo (h:iC E own pp c w S recs l tk d) (a:Int) (i:¬l.length < 100):
  Calls Tryz.prog 13 #[.pointer (some ⟨pp,0,none⟩),.int .i64 a] w fun e w'=>e= .returned (.tuple #[.int .i64 0,.string ⟨#[]⟩,.int .i64 3])∧w=w':=by
 obtain ⟨K,s,r,q,t,u,L,v,f,j,k,g,m,n,o,p⟩:=h;have b:L.length=l.length:=by rw [←g,List.length_map]
 exact yM f a (fun e=>i (by rw [←b];exact e.2.2))
theorem iC.close (h:iC E own pp c w S recs l tk d) (n:Nat) {s:bG} (t:l[n]? =some (some s)):
  Calls Tryz.prog 34 #[.pointer (some ⟨pp,0,none⟩),.int .i64 (n:Int)] w fun e w'=>e= .returned (.int .i64 0)∧mr E own pp c w S recs (l.set n none) tk d w':=by
 obtain ⟨K,m,j,q,o,p,L,a,y,f,A,r,C,D,b,F⟩:=h;rw [←r] at t;obtain ⟨x,G,rfl⟩:=zw t;refine (yK y n G).mono ?_;rintro e H ⟨rfl,u,v,i⟩
 have g:∀k,r7 a k→¬ee w m j q o S p L k:=fun k e=>by
  cases a with
  | none=>cases e
  | some z=>exact f.fm k e
 refine ⟨rfl,fun k=>ee H m j q o S p (L.set n none) k∨r7 a k,⟨K,m,j,q,o,p,_,a,u,?_,A,?_,C,D,fun k e=>e,fun k e=>?_⟩,fun k e=>?_,i.mono (fun k _ e=> .inr (b k (.inl e)))⟩
 ·cases a with
  | none=>exact f
  | some z=>exact hY.kin f (oj.refl S) i g (fun k e=> .inl (v k e))
 ·rw [List.map_set,r];rfl
 ·rcases e with e | e
  ·exact nz _ u e
  ·have:=F k (b k (.inr e));exact ⟨Nat.lt_of_lt_of_le this.1 i.size,this.2⟩
 ·rcases e with e | e
  ·exact .inl (b k (.inl (v k e)))
  ·exact .inl (b k (.inr e))
theorem iC.kept (h:iC E own pp c w S recs l tk d):Calls Tryz.prog 17 #[.pointer (some ⟨pp,0,none⟩)] w fun e w'=>e= .returned (.tuple #[.string (bs recs),.int .i64 0])∧w=w':=by
 obtain ⟨K,o,n,q,p,r,L,s,a,b,f,g,i,j,k,m⟩:=h;exact AR a.post
theorem iC.queue (h:iC E own pp c w S recs l tk d):Calls Tryz.prog 10 #[.pointer (some ⟨pp,0,none⟩)] w fun e w'=>∃v a,e= .returned (.tuple #[v,.int .i64 0])∧iT w.heap.size w' v a∧a.map (·.1)=gA S.items∧Below w.heap.size w w':=by
 obtain ⟨K,p,o,q,r,s,L,t,b,f,g,i,j,k,m,n⟩:=h;exact yd b.post b.keep.2.2 (by have:=b.keep.2.1.items;omega)
theorem iC.tickNo (h:iC E own pp c w S recs l tk d) (T:Int) (b:¬((S.time:Int)≤T∧T≤1000000000)):
  Calls Tryz.prog 23 #[.pointer (some ⟨pp,0,none⟩),.int .i64 T] w fun e w'=>e= .returned (.int .i64 3)∧w=w':=by
 obtain ⟨K,p,o,q,r,s,L,t,a,f,g,i,j,k,m,n⟩:=h;exact DU a T b
theorem iC.tickBusy {t:aQ} (h:iC E own pp c w S recs l (some t) d) (T:Int) (g:(S.time:Int)≤T∧T≤1000000000):
  Calls Tryz.prog 23 #[.pointer (some ⟨pp,0,none⟩),.int .i64 T] w fun e w'=>e= .returned (.int .i64 6)∧w=w':=by
 obtain ⟨K,r,p,q,s,u,L,i,a,b,j,k,f,m,n,o⟩:=h
 cases i with
 | none=>cases f
 | some x=>exact BU a T g x.tb b.tk
theorem iC.tick (h:iC E own pp c w S recs l none d) (T:Nat) (m:S.time≤T∧T≤1000000000):
  Calls Tryz.prog 23 #[.pointer (some ⟨pp,0,none⟩),.int .i64 (T:Int)] w fun e w'=>e= .returned (.int .i64 0)∧mr E own pp c w (dw c.life (⟨S.items,T⟩,recs) S.live).1 (dw c.life (⟨S.items,T⟩,recs) S.live).2 l none (oS S (dw c.life (⟨S.items,T⟩,recs) S.live).1 d) w':=by
 obtain ⟨K,p,o,q,O,t,L,I,f,g,u,v,y,z,j,J⟩:=h
 cases I with
 | some x=>cases y
 | none=>
  obtain ⟨s,G,M,N⟩:=yk f u T m.2;refine (J6 f T m g).mono ?_;rintro e H ⟨rfl,r,a,n,D,F⟩;have C:=f.post.bag.kn;refine ⟨rfl,ee H p o r a (dw c.life (⟨S.items,T⟩,recs) S.live).1 t L,⟨K,p,o,r,a,t,L,none,n,g,G,v,rfl,fun i A=>?_,fun k e=>e.elim id (fun e=>by cases e),fun k e=>nz _ n e⟩,fun k e=>(D k e).imp (fun e=>j k (.inl e)) id,F.mono (fun k _ e=> .inr (j k (.inl e)))⟩;unfold oS
  by_cases b:i < S.items.length
  ·rw [if_pos b,←z i (s.live A b)];unfold bV;rw [s.mail i b]
  ·rw [if_neg b];unfold bV;rw [if_neg (by omega)]
def Aw (S S':aa) (d:Nat→Int×Int) (t:aQ) (ws:List Int) (i:Nat):Int×Int:=if i=t.i then (S.time+kH ws (d t.i).2,(d t.i).2+1) else oS S S' d i
theorem iC.overTo {K:Kn} {b a:Nat} {q:Nat→Nat} {m f:Value} {L:List (Option eH)} {x:iJ} (n:@bQ K E pp b a c w q m S recs f L) (o:Kt K E pp b a w q m S f L (some x)) (p:@mJ K S) (z:L.map (Option.map (·.s))=l) (r:∀i∈S.live,@bV K S i=d i) (s:∀k,ee w b a q m S f L k∨r7 (some x) k→own k) (C:tv E pp b a c w q m S recs f L x w'):mr E own pp c w (cV S recs x.t).1 (cV S recs x.t).2 l none (Aw S (cV S recs x.t).1 d x.t c.waits) w':=by
 obtain ⟨y,g,u,D,F⟩:=C;obtain ⟨v,G,H⟩:=o9 n o p;have A:=n.post.bag.kn;refine ⟨ee w' b a y g (cV S recs x.t).1 f L,⟨_,b,a,y,g,f,L,none,u,rfl,FD n o p (.pointer none),z,rfl,fun i t=>?_,fun k e=>e.elim id (fun e=>by cases e),fun k e=>nz _ u e⟩,fun k e=>(D k e).imp (fun e=>s k (.inl e)) id,F.mono (fun k _ e=>e.imp id (fun e=>s k (e.elim .inr .inl)))⟩;have e:@bV (Kn.mk (iQ K (cV S recs x.t).1 x.t.i (nt S x.t c.waits)).D0 (cV S recs x.t).1.items.length (.pointer none)) (cV S recs x.t).1 i=if i=x.t.i then nt S x.t c.waits else bV (cV S recs x.t).1 i:=if_pos (bq t);rw [e];unfold Aw
 by_cases h:i=x.t.i
 ·rw [if_pos h,if_pos h];unfold nt;rw [r _ o.live]
 ·rw [if_neg h,if_neg h];unfold oS
  by_cases j:i < S.items.length
  ·rw [if_pos j,←r i (v.live t j)];unfold bV;rw [v.mail i j]
  ·rw [if_neg j];unfold bV;rw [if_neg (by omega)]
theorem iC.hangIdle (h:iC E own pp c w S recs l none d):Calls Tryz.prog 21 #[.pointer (some ⟨pp,0,none⟩)] w fun e w'=>e= .returned (.int .i64 5)∧w=w':=by
 obtain ⟨K,p,o,q,r,s,L,g,a,b,i,j,f,k,m,n⟩:=h
 cases g with
 | some x=>cases f
 | none=>exact AJ a b
theorem iC.hang {t:aQ} (h:iC E own pp c w S recs l (some t) d):Calls Tryz.prog 21 #[.pointer (some ⟨pp,0,none⟩)] w fun e w'=>e= .returned (.int .i64 0)∧mr E own pp c w (cV S recs t).1 (cV S recs t).2 l none (Aw S (cV S recs t).1 d t c.waits) w':=by
 obtain ⟨K,r,p,q,s,u,L,n,a,b,f,i,g,j,k,o⟩:=h
 cases n with
 | none=>cases g
 | some x=>
  have e:x.t=t:=by simpa using g
  subst e;refine (J0 a b f).mono ?_;rintro e v ⟨rfl,m⟩;exact ⟨rfl,iC.overTo a b f i j k m⟩
theorem iC.ansIdle (h:iC E own pp c w S recs l none d) (a:Int):Calls Tryz.prog 33 #[.pointer (some ⟨pp,0,none⟩),.int .i64 a] w fun e w'=>e= .returned (.tuple #[.string ⟨#[]⟩,.int .i64 5])∧w=w':=by
 obtain ⟨K,r,p,q,s,t,L,i,b,f,j,k,g,m,n,o⟩:=h
 cases i with
 | some x=>cases g
 | none=>exact wq b f a
theorem iC.ansEnd {t:aQ} (h:iC E own pp c w S recs l (some t) d) (p:t.said=6) (a:Nat) (n:200≤a∧a≤599):Calls Tryz.prog 33 #[.pointer (some ⟨pp,0,none⟩),.int .i64 (a:Int)] w fun e w'=>e= .returned (.tuple #[.string ⟨#[]⟩,.int .i64 0])∧mr E own pp c w (cV S recs t).1 (cV S recs t).2 l none (Aw S (cV S recs t).1 d t c.waits) w':=by
 obtain ⟨K,v,u,q,y,z,L,r,b,f,g,j,i,k,m,s⟩:=h
 cases r with
 | none=>cases i
 | some x=>
  have e:x.t=t:=by simpa using i
  subst e;refine (yy b f g p a n).mono ?_;rintro e A ⟨rfl,o⟩;exact ⟨rfl,iC.overTo b f g j k m o⟩
def Gn (c:bX) (S:aa) (t:aQ) (code:Nat):aQ×List UInt8:=t.hear (cQ c) (S.mailOf t.i).frm (mD (S.mailOf t.i).body) (code / 100)
theorem iC.ans {t:aQ} (h:iC E own pp c w S recs l (some t) d) (C:t.said≠6) (a:Nat) (A:200≤a∧a≤599):Calls Tryz.prog 33 #[.pointer (some ⟨pp,0,none⟩),.int .i64 (a:Int)] w fun e w'=>e= .returned (.tuple #[.string (bs (Gn c S t a).2),.int .i64 0])∧mr E own pp c w S recs l (some (Gn c S t a).1) d w':=by
 obtain ⟨K,m,j,q,n,o,L,I,s,u,v,y,f,z,b,J⟩:=h
 cases I with
 | none=>cases f
 | some x=>
  have e:x.t=t:=by simpa using f
  subst e;refine (Gp s u C a A).mono ?_;rintro e H ⟨rfl,p,r,g,i,D,F,G⟩;refine ⟨rfl,fun k=>ee H m j q n S o L k∨p.own k,⟨K,m,j,q,n,o,L,some p,g,i,v,y,congrArg some r,z,fun k e=>e,fun k e=>?_⟩,fun k e=>?_,G.mono (fun k _ e=> .inr (b k (.inr e)))⟩
  ·rcases e with e | e
   ·exact nz _ g e
   ·exact (DV _ i).1 k e
  ·rcases e with e | e
   ·exact .inl (b k (.inl (D k e)))
   ·exact (F k e).imp (fun e=>b k (.inr e)) id
theorem iC.dialBusy {t:aQ} (h:iC E own pp c w S recs l (some t) d):Calls Tryz.prog 22 #[.pointer (some ⟨pp,0,none⟩)] w fun e w'=>e= .returned (.tuple #[.int .i64 0,.int .i64 6])∧w=w':=by
 obtain ⟨K,p,o,q,r,s,L,g,a,b,i,j,f,k,m,n⟩:=h
 cases g with
 | none=>cases f
 | some x=>exact Ay a x.tb b.tk
theorem iC.dial (h:iC E own pp c w S recs l none d):Calls Tryz.prog 22 #[.pointer (some ⟨pp,0,none⟩)] w fun e w'=>((∀i∈S.live,(S.time:Int) < (d i).1)∧e= .returned (.tuple #[.int .i64 0,.int .i64 5])∧mr E own pp c w S recs l none d w')∨∃i,i∈S.live∧(d i).1≤S.time∧e= .returned (.tuple #[.int .i64 ((i:Int)+1),.int .i64 0])∧mr E own pp c w S recs l (some (jM S i)) d w':=by
 have u:=h;obtain ⟨K,r,p,q,s,t,L,M,v,y,z,A,C,g,D,N⟩:=h
 cases M with
 | some x=>cases C
 | none=>
  refine (JW v y).mono ?_;rintro e J (⟨a,b,f⟩ | ⟨i,x,a,b,f,o,m,G,H,I⟩)
  ·exact .inl ⟨fun i n=>by rw [←g i n];exact a i n,b,own,u.below f,fun k e=> .inl e,aH.below f⟩
  ·have F:∀j,@bV (Kn.mk K.D0 K.n0 (.pointer (some ⟨x.tb,0,none⟩))) S j=@bV K S j:=fun j=>rfl;refine .inr ⟨i,a,by have:=(DV _ m).2;rw [F,b] at this;rw [←g i a];exact this,f,fun k=>ee J r p q s S t L k∨x.own k,⟨_,r,p,q,s,t,L,some x,o,m,z,A,congrArg some b,g,fun k e=>e,fun k e=>?_⟩,fun k e=>?_,I.mono (fun k _ e=> .inl e)⟩
   ·rcases e with e | e
    ·exact nz _ o e
    ·exact (DV _ m).1 k e
   ·rcases e with e | e
    ·exact .inl (D k (.inl (G k e)))
    ·exact .inr (H k e)
end
structure GS where
 S:aa
 recs:List UInt8
 l:List (Option bG)
 tk:Option aQ
 d:Nat→Int×Int
 seats:List ca
 mails:List aX
 bad:Bool
def fI (c:bX) (g:GS) (n:Nat) (s:bG) (x:ca) (l:List UInt8):GS where
 S:=(aO c s g.S g.recs l false).2.1
 recs:=(aO c s g.S g.recs l false).2.2.1
 l:=g.l.set n (if (aO c s g.S g.recs l false).1.over then none else some (aO c s g.S g.recs l false).1)
 tk:=g.tk
 d:=oS g.S (aO c s g.S g.recs l false).2.1 g.d
 seats:=g.seats.set n (gH x l (aO c s g.S g.recs l false).2.2.2.flatten)
 mails:=g.mails++fL x l (aO c s g.S g.recs l false).2.2.2.flatten
 bad:=g.bad || dp x l (aO c s g.S g.recs l false).2.2.2.flatten
def Ee (c:bX) (g:GS) (addr:Int):GS:={g with l:=g.l++[some (dI c addr)],seats:=g.seats++[⟨addr,false,false,false,[]⟩]}
def yj (c:bX) (g:GS) (T:Nat):GS:={g with S:=(dw c.life (⟨g.S.items,T⟩,g.recs) g.S.live).1,recs:=(dw c.life (⟨g.S.items,T⟩,g.recs) g.S.live).2,d:=oS g.S (dw c.life (⟨g.S.items,T⟩,g.recs) g.S.live).1 g.d}
def Bt (c:bX) (g:GS) (t:aQ):GS:={g with S:=(cV g.S g.recs t).1,recs:=(cV g.S g.recs t).2,tk:=none,d:=Aw g.S (cV g.S g.recs t).1 g.d t c.waits}
def Cv (g:GS) (n:Nat) (x:ca):GS:={g with l:=g.l.set n none,seats:=g.seats.set n {x with closed:=true}}
inductive hU (c:bX):GS→GS→Prop
 | line (g:GS) (n:Nat) (s:bG) (x:ca) (l:List UInt8) (hl:l∈LL) (hs:g.l[n]? =some (some s)) (hx:g.seats[n]? =some x):hU c g (fI c g n s x l)
 | conn (g:GS) (addr:Int) (h0:0≤addr) (h1:addr < 1000) (hl:g.l.length < 100):hU c g (Ee c g addr)
 | tick (g:GS) (T:Nat) (hT:g.S.time≤T∧T≤1000000000) (ht:g.tk=none):hU c g (yj c g T)
 | dial (g:GS) (i:Nat) (hi:i∈g.S.live) (hd:(g.d i).1≤g.S.time) (ht:g.tk=none):hU c g {g with tk:=some (jM g.S i)}
 | ans (g:GS) (t:aQ) (code:Nat) (hc:200≤code∧code≤599) (hs:t.said≠6) (ht:g.tk=some t):hU c g {g with tk:=some (Gn c g.S t code).1}
 | over (g:GS) (t:aQ) (ht:g.tk=some t):hU c g (Bt c g t)
 | close (g:GS) (n:Nat) (s:bG) (x:ca) (hs:g.l[n]? =some (some s)) (hx:g.seats[n]? =some x):hU c g (Cv g n x)
inductive fy (c:bX):Nat→GS→GS→Prop
 | nil (g:GS):fy c 0 g g
 | snoc {k:Nat} {g g' g'':GS} (h:fy c k g g') (s:hU c g' g''):fy c (k+1) g g''
theorem fy.one {c:bX} {g g':GS} (h:hU c g g'):fy c 1 g g':= .snoc (.nil g) h
theorem fy.trans {c:bX} {k m:Nat} {g g' a:GS} (h:fy c k g g') (b:fy c m g' a):fy c (k+m) g a:=by
 induction b with
 | nil=>exact h
 | snoc _ s ih=>exact .snoc (ih h) s
structure dX (c:bX):Prop where
 doms:c.doms=na
 nets:c.nets=[(256,24)]
 may:ij c=true
structure hJ (g:GS):Prop where
 len:g.seats.length=g.l.length
 seat:∀(n:Nat) (x:ca) (o:Option bG),g.seats[n]? =some x→g.l[n]? =some o→fj x o
 bad:g.bad=false
 ids:∀m∈g.mails,m.id≤g.S.items.length
 tos:∀m∈g.mails,m.tos.length≤10
 more:g.mails.length≤g.S.items.length
 told:∀i,i < g.S.items.length→(∀m∈g.mails,m.id=i+1→∀t∈(g.S.mailOf i).tos,t∈m.tos)∧((∀m∈g.mails,m.id≠i+1)→xu (g.S.mailOf i))
theorem kQ {α:Type} {l:List α} {n m:Nat} {v y:α} (h:(l.set n v)[m]? =some y):(m=n∧v=y)∨(m≠n∧l[m]? =some y):=by
 by_cases e:n=m
 ·subst e
  by_cases a:n < l.length
  ·rw [List.getElem?_set_self a] at h;exact .inl ⟨rfl,by injection h⟩
  ·rw [List.getElem?_eq_none (by simp;omega)] at h
   cases h
 ·rw [List.getElem?_set_ne e] at h;exact .inr ⟨Ne.symm e,h⟩
theorem kU {α:Type} {l:List α} {v y:α} {n:Nat} (h:(l++[v])[n]? =some y):(n=l.length∧v=y)∨(n < l.length∧l[n]? =some y):=by
 by_cases a:n < l.length
 ·rw [List.getElem?_append_left a] at h;exact .inr ⟨a,h⟩
 ·rw [List.getElem?_append_right (by omega)] at h
  by_cases e:n - l.length=0
  ·rw [e] at h;exact .inl ⟨by omega,by injection h⟩
  ·rw [List.getElem?_eq_none (by simp;omega)] at h
   cases h
section
variable {c:bX} {g g':GS}
theorem hJ.later (h:hJ g) {f:aa} (j:iB g.S f) (a:List UInt8) (l:Option aQ) (n:Nat→Int×Int):hJ {g with S:=f,recs:=a,tk:=l,d:=n}:=by
 refine ⟨h.len,h.seat,h.bad,fun m k=>Nat.le_trans (h.ids m k) j.len,h.tos,Nat.le_trans h.more j.len,fun i o=>?_⟩
 by_cases b:i < g.S.items.length
 ·show (∀m∈g.mails,m.id=i+1→∀t∈(f.mailOf i).tos,t∈m.tos)∧((∀m∈g.mails,m.id≠i+1)→xu (f.mailOf i));rw [j.mail i b];exact h.told i b
 ·exact ⟨fun m k e=>by have:=h.ids m k;omega,fun _=>j.new i (by omega) o⟩
theorem Dk {c:bX} (a:c.nets=[(256,24)]) {addr:Int}:(dI c addr).nets=true→addr / 256=1:=by
 intro h;have h:c.nets.any (iZ addr)=true:=h;rw [a] at h;simp only [List.any_cons,List.any_nil,Bool.or_false] at h;unfold iZ at h;have h:=of_decide_eq_true h;have e:(2:Int) ^ ((32:Int) - 24).toNat=256:=by decide
 simp only [e] at h;omega
theorem Hy (e:dX c) {a:Int} (b:0≤a) (d:a < 1000):km ⟨a,false,false,false,[]⟩ (dI c a):=
 ⟨rfl,rfl,rfl,rfl,rfl,rfl,Dk e.nets,(fun t f=>by cases f),b,d⟩
theorem hJ.step (H:dX c) (h:hJ g) (J:hU c g g') (P:∀(n:Nat) (s:bG),g.l[n]? =some (some s)→gM c s g.S g.recs) (I:(∀T,g.S.time≤T∧T≤1000000000→iB g.S (dw c.life (⟨g.S.items,T⟩,g.recs) g.S.live).1)∧∀t,g.tk=some t→iB g.S (cV g.S g.recs t).1):hJ g':=by
 cases J with
 | line n s x l hll hsn hx=>
  have G:=h.seat n x _ hx hsn;obtain ⟨a,b,e⟩:=qR (S:=g.S) (recs:=g.recs) (pZ hll) H.doms G;have D:(fI c g n s x l).seats.length=(fI c g n s x l).l.length:=by show (g.seats.set ..).length=(g.l.set ..).length;rw [List.length_set,List.length_set];exact h.len
  have r:∀(m:Nat) (y:ca) (o:Option bG),(fI c g n s x l).seats[m]? =some y→(fI c g n s x l).l[m]? =some o→fj y o:=fun m y o A B=>by
   rcases kQ A with ⟨k,p⟩ | ⟨k,p⟩
   ·rcases kQ B with ⟨f,j⟩ | ⟨f,j⟩
    ·rw [←p,←j];exact a
    ·exact absurd k f
   ·rcases kQ B with ⟨f,j⟩ | ⟨f,j⟩
    ·exact absurd f k
    ·exact h.seat m y o p j
  have v:(fI c g n s x l).bad=false:=by show (g.bad || _)=false;rw [h.bad,b];rfl
  rcases e with ⟨k,f,M⟩ | ⟨t,b,k,f,M,R,N,O,U,V⟩
  ·have u:(fI c g n s x l).mails=g.mails:=by show g.mails++_=_;rw [k,List.append_nil]
   have w:(fI c g n s x l).S=g.S:=f;exact ⟨D,r,v,by rw [u,w];exact h.ids,by rw [u];exact h.tos,by rw [u,w];exact h.more,by rw [u,w];exact h.told⟩
  ·have u:(fI c g n s x l).mails=g.mails++[⟨g.S.items.length+1,0,[],t.tos,[]⟩]:=by show g.mails++_=_;rw [N]
   have w:(fI c g n s x l).S=g.S.plus (eJ g.S t.frm t.tos b.text):=O;have q:(g.S.plus (eJ g.S t.frm t.tos b.text)).items.length=g.S.items.length+1:=dv ..;have z:=((P n s hsn).tx t k).1.most;refine ⟨D,r,v,?_,?_,?_,?_⟩
   ·rw [u,w,q];intro m d
    rcases List.mem_append.1 d with d | d
    ·have:=h.ids m d;omega
    ·rw [List.mem_singleton.1 d];exact Nat.le_refl _
   ·rw [u];intro m d
    rcases List.mem_append.1 d with d | d
    ·exact h.tos m d
    ·rw [List.mem_singleton.1 d];exact z
   ·rw [u,w,q,List.length_append,List.length_singleton];have:=h.more;omega
   ·rw [u,w,q];intro i E
    by_cases C:i < g.S.items.length
    ·rw [je C];obtain ⟨K,L⟩:=h.told i C;refine ⟨fun m d e=>?_,fun F=>L fun m d=>F m (List.mem_append.2 (.inl d))⟩
     rcases List.mem_append.1 d with d | d
     ·exact K m d e
     ·rw [List.mem_singleton.1 d] at e;have e:g.S.items.length+1=i+1:=e;omega
    ·obtain rfl:i=g.S.items.length:=by omega
     rw [dN];refine ⟨fun m d e=>?_,fun F=>absurd rfl (F _ (List.mem_append.2 (.inr (List.mem_singleton.2 rfl))))⟩
     rcases List.mem_append.1 d with d | d
     ·have:=h.ids m d;omega
     ·rw [List.mem_singleton.1 d];exact fun y Q=>Q
 | conn addr h0 A hll=>
  refine ⟨by show (g.seats++[_]).length=(g.l++[_]).length;rw [List.length_append,List.length_append,h.len];rfl,fun m y o g1 g2=>?_,h.bad,h.ids,h.tos,h.more,h.told⟩
  rcases kU g1 with ⟨k,p⟩ | ⟨k,p⟩
  ·rcases kU g2 with ⟨f,j⟩ | ⟨f,j⟩
   ·rw [←p,←j];exact Hy H h0 A
   ·rw [h.len] at k;omega
  ·rcases kU g2 with ⟨f,j⟩ | ⟨f,j⟩
   ·rw [h.len] at k;omega
   ·exact h.seat m y o p j
 | tick T hT ht=>exact h.later (I.1 T hT) _ g.tk _
 | dial i E hd ht=>exact ⟨h.len,h.seat,h.bad,h.ids,h.tos,h.more,h.told⟩
 | ans t code hcc J ht=>exact ⟨h.len,h.seat,h.bad,h.ids,h.tos,h.more,h.told⟩
 | over t ht=>exact h.later (I.2 t ht) _ none _
 | close n s x hsn hx=>
  refine ⟨by show (g.seats.set ..).length=(g.l.set ..).length;rw [List.length_set,List.length_set];exact h.len,fun m y o A B=>?_,h.bad,h.ids,h.tos,h.more,h.told⟩
  rcases kQ A with ⟨k,p⟩ | ⟨k,p⟩
  ·rcases kQ B with ⟨f,j⟩ | ⟨f,j⟩
   ·rw [←p,←j];rfl
   ·exact absurd k f
  ·rcases kQ B with ⟨f,j⟩ | ⟨f,j⟩
   ·exact absurd f k
   ·exact h.seat m y o p j
end
def di (x:ca) (v:Value):List Value:=[.int .i64 x.addr,.bool x.known,.bool x.inside,.bool x.closed,v]
def gL (l:List (ca×Value)):List Value:=l.flatMap fun x=>di x.1 x.2
theorem DG (l:List (ca×Value)) (k i:Nat) (h:k < l.length) (b:i < 5):(gL l)[k * 5+i]? =(di l[k].1 l[k].2)[i]? :=by
 induction l generalizing k with
 | nil=>simp at h
 | cons x l ih=>
  show (di x.1 x.2++gL l)[k * 5+i]? =_;have a:(di x.1 x.2).length=5:=rfl
  cases k with
  | zero=>
   rw [List.getElem?_append_left (by rw [a];omega)];simp
  | succ k=>
   rw [List.getElem?_append_right (by rw [a];omega),a,show (k+1) * 5+i - 5=k * 5+i by omega]
   exact ih k (by simpa using h)
theorem zv (l:List (ca×Value)) (x:ca×Value):gL (l++[x])=gL l++di x.1 x.2:=by simp [gL]
theorem BG {l:List (ca×Value)} {k i:Nat} (h:k < l.length) (d:i < 5) {u:Value} {y:ca×Value} (b:di y.1 y.2=(di l[k].1 l[k].2).set i u):(gL l).set (k * 5+i) u=gL (l.set k y):=by
 induction l generalizing k with
 | nil=>simp at h
 | cons x l ih=>
  have a:(di x.1 x.2).length=5:=rfl
  cases k with
  | zero=>
   show (di x.1 x.2++gL l).set (0 * 5+i) u=di y.1 y.2++gL l;rw [b,List.set_append_left _ _ (by rw [a];omega)];simp
  | succ k=>
   show (di x.1 x.2++gL l).set ((k+1) * 5+i) u=di x.1 x.2++gL (l.set k y);rw [List.set_append_right _ _ (by rw [a];omega),a,show (k+1) * 5+i - 5=k * 5+i by omega,ih (by simpa using h) (by simpa using b)]
theorem Ik {w:World} {g a n f j:Nat} {t:TypeId} {x:Value} {i:List Value} (h:w.ownsRow 0 t f (.slice (some ⟨g,0,none⟩) n a) n i):(w.setCell ⟨g,j,none⟩ x).ownsRow 0 t f (.slice (some ⟨g,0,none⟩) n a) n (i.set j x):=by
 refine ⟨by rw [List.length_set];exact h.1,?_⟩
 rcases h.2 with ⟨e,_⟩ | ⟨r,q,b,e,k,l,m,o,p,d⟩
 ·cases e
 ·injection e with e1 _ e3;injection e1 with e1;injection e1 with e1;subst e1 e3;refine .inr ⟨g,a,b.setIfInBounds j x,rfl,k,heap_setCell_same w g j _ _ x l,m,o,by simp [p],?_⟩
  rw [Array.toList_setIfInBounds,List.take_set,d]
def fX (gb:Nat) (vS vM:Value) (k:Nat):Prop:=k=gb∨vS.ownBlock=some k∨vM.ownBlock=some k
structure iE (E own:Nat→Prop) (gb:Nat) (vS vM:Value) (w:World) (tos:List (List UInt8)) (v:Value):Prop where
 row:bg w v tos.length 1 (aB tos)
 off:∀k,v.ownBlock=some k→k < w.heap.size∧¬E k∧¬own k∧¬fX gb vS vM k
structure gX (E own:Nat→Prop) (pp gb:Nat) (c:bX) (w:World) (vS vM:Value) (sl:List (ca×Value)) (ml:List (aX×Value)) (g:GS):Prop where
 post:iC E own pp c w g.S g.recs g.l g.tk g.d
 blk:∃C:Array Value,w.heap[gb]? =some (.cells C 41 (0,0))∧C.size=14∧C[0]? =some (.pointer (some ⟨pp,0,none⟩))∧C[10]? =some vS∧C[11]? =some vM∧C[12]? =some (.int .i64 g.S.time)∧C[13]? =some (.bool g.bad)
 srow:w.ownsRow 0 51 5 vS sl.length (gL sl)
 mrow:w.ownsRow 0 45 5 vM ml.length (fJ ml)
 seq:sl.map (·.1)=g.seats
 meq:ml.map (·.1)=g.mails
 stos:∀x∈sl,iE E own gb vS vM w x.1.tos x.2
 mtos:∀x∈ml,iE E own gb vS vM w x.1.tos x.2
 off:∀k,fX gb vS vM k→k < w.heap.size∧¬E k∧¬own k
section
variable {E own own' B:Nat→Prop} {pp gb:Nat} {c:bX} {w w':World} {vS vM vS' vM':Value} {sl:List (ca×Value)} {ml:List (aX×Value)} {g:GS} {tos:List (List UInt8)} {v:Value}
theorem iE.chg (h:iE E own gb vS vM w tos v) (i:aH B w w') (j:∀k,v.ownBlock=some k→¬B k) (m:∀k,own' k→own k∨w.heap.size≤k) (l:∀k,fX gb vS' vM' k→fX gb vS vM k∨w.heap.size≤k):iE E own' gb vS' vM' w' tos v:=
 ⟨h.row.chg i j,fun k e=>by
  obtain ⟨a,b,d,f⟩:=h.off k e
  exact ⟨Nat.lt_of_lt_of_le a i.size,b,fun x=>(m k x).elim d (fun x=>by omega),fun x=>(l k x).elim f (fun x=>by omega)⟩⟩
theorem iE.nil (w:World):iE E own gb vS vM w [] (.slice none 0 0):=⟨aF (World.ownsRow_nil _ _ _ _:w.ownsRow 0 9 1 (.slice none 0 0) 0 []),fun k e=>by cases e⟩
theorem gX.tag (h:gX E own pp gb c w vS vM sl ml g):(∀k,vS.ownBlock=some k→k≠gb∧vM.ownBlock≠some k)∧∀k,vM.ownBlock=some k→k≠gb:=by
 obtain ⟨C,f,_⟩:=h.blk;refine ⟨fun k e=>?_,fun k e x=>?_⟩
 ·obtain ⟨d,a⟩:=dm h.srow e;refine ⟨fun x=>?_,fun x=>?_⟩
  ·rw [x,f] at a;injection a with a;injection a with _ a _;exact absurd a (by decide)
  ·obtain ⟨i,b⟩:=dm h.mrow x;rw [a] at b;injection b with b;injection b with _ b _;exact absurd b (by decide)
 ·obtain ⟨d,a⟩:=dm h.mrow e;rw [x,f] at a;injection a with a;injection a with _ a _;exact absurd a (by decide)
theorem gX.call (h:gX E own pp gb c w vS vM sl ml g) {m:aa} {b:List UInt8} {q:List (Option bG)} {j:Option aQ} {p:Nat→Int×Int} (u:mr E own pp c w m b q j p w') (y:m.time=g.S.time):∃own',gX E own' pp gb c w' vS vM sl ml {g with S:=m,recs:=b,l:=q,tk:=j,d:=p}∧(∀k,own' k→own k∨w.heap.size≤k)∧aH (fun k=>k=pp∨own k) w w':=by
 obtain ⟨own',z,o,i⟩:=u;have a:∀k,fX gb vS vM k→¬(k=pp∨own k):=fun k e x=>x.elim (fun x=>(h.off k e).2.1 (by rw [x];exact h.post.epp)) (h.off k e).2.2;have f:∀{tos:List (List UInt8)} {v:Value},iE E own gb vS vM w tos v→iE E own' gb vS vM w' tos v:=fun t=>t.chg i (fun k e x=>x.elim (fun x=>(t.off k e).2.1 (by rw [x];exact h.post.epp)) (t.off k e).2.2.1) o (fun k e=> .inl e);obtain ⟨C,r,s⟩:=h.blk;exact ⟨own',⟨z,⟨C,i.some_ r (a _ (.inl rfl)),by show _∧_∧_∧_∧C[12]? =some (.int .i64 m.time)∧_;rw [y];exact s⟩,bC h.srow i (fun k e=>a k (.inr (.inl e))),bC h.mrow i (fun k e=>a k (.inr (.inr e))),h.seq,h.meq,fun x n=>f (h.stos x n),fun x n=>f (h.mtos x n),fun k e=>⟨Nat.lt_of_lt_of_le (h.off k e).1 i.size,(h.off k e).2.1,fun x=>(o k x).elim (h.off k e).2.2 (fun x=>by have:=(h.off k e).1;omega)⟩⟩,o,i⟩
theorem gX.turn (h:gX E own pp gb c w vS vM sl ml g) (i:aH (fX gb vS vM) w w') {sl':List (ca×Value)} {ml':List (aX×Value)} {bad':Bool}
  (f:∃C:Array Value,w'.heap[gb]? =some (.cells C 41 (0,0))∧C.size=14∧C[0]? =some (.pointer (some ⟨pp,0,none⟩))∧C[10]? =some vS'∧C[11]? =some vM'∧C[12]? =some (.int .i64 g.S.time)∧C[13]? =some (.bool bad'))
  (l:w'.ownsRow 0 51 5 vS' sl'.length (gL sl')) (j:w'.ownsRow 0 45 5 vM' ml'.length (fJ ml')) (b:∀k,fX gb vS' vM' k→fX gb vS vM k∨w.heap.size≤k)
  (p:∀x∈sl',iE E own gb vS vM w x.1.tos x.2) (o:∀x∈ml',iE E own gb vS vM w x.1.tos x.2):gX E own pp gb c w' vS' vM' sl' ml' {g with seats:=sl'.map (·.1),mails:=ml'.map (·.1),bad:=bad'}:=by
 have m:∀{tos:List (List UInt8)} {v:Value},iE E own gb vS vM w tos v→iE E own gb vS' vM' w' tos v:=fun t=>t.chg i (fun k e=>(t.off k e).2.2.2) (fun k e=> .inl e) b
 have a:∀k,fX gb vS' vM' k→k < w'.heap.size:=fun k e=>by
  rcases e with e | e | e
  ·obtain ⟨C,n,_⟩:=f;rw [e];exact ah n
  ·exact (kD l e).2
  ·exact (kD j e).2
 exact ⟨h.post.chg i (fun k e x=>(h.off k x).2.1 e) (fun k e x=>(h.off k x).2.2 e),f,l,j,rfl,rfl,fun x d=>m (p x d),fun x d=>m (o x d),fun k e=>⟨a k e,(b k e).elim (fun x=>(h.off k x).2.1) (fun x y=>by have:=h.post.elt y;omega),(b k e).elim (fun x=>(h.off k x).2.2) (fun x y=>by have:=h.post.lt y;omega)⟩⟩
theorem gX.below (h:gX E own pp gb c w vS vM sl ml g) (a:Below w.heap.size w w'):gX E own pp gb c w' vS vM sl ml g:=by
 have b:aH (fun _=>False) w w':=aH.below a;have f:∀{tos:List (List UInt8)} {v:Value},iE E own gb vS vM w tos v→iE E own gb vS vM w' tos v:=fun t=>t.chg b (fun k e x=>x) (fun k e=> .inl e) (fun k e=> .inl e);obtain ⟨C,i,j⟩:=h.blk;exact ⟨h.post.below a,⟨C,ae a i,j⟩,bC h.srow b (fun _ _ x=>x),bC h.mrow b (fun _ _ x=>x),h.seq,h.meq,fun x d=>f (h.stos x d),fun x d=>f (h.mtos x d),fun k e=>⟨Nat.lt_of_lt_of_le (h.off k e).1 a.size,(h.off k e).2⟩⟩
theorem gX.same (h:gX E own pp gb c w vS vM sl ml g) {a:GS} (e:g=a):gX E own pp gb c w vS vM sl ml a:=by rw [←e];exact h
theorem gX.cells (h:gX E own pp gb c w vS vM sl ml g):w.cell? ⟨gb,0,none⟩=some (.pointer (some ⟨pp,0,none⟩))∧w.cell? ⟨gb,10,none⟩=some vS∧w.cell? ⟨gb,11,none⟩=some vM∧w.cell? ⟨gb,12,none⟩=some (.int .i64 g.S.time)∧w.cell? ⟨gb,13,none⟩=some (.bool g.bad)∧∀j,w.frozen? ⟨gb,j,none⟩=false:=by
 obtain ⟨C,a,k,b,d,e,f,i⟩:=h.blk;refine ⟨by rw [Lib.cell_of_heap a];exact b,by rw [Lib.cell_of_heap a];exact d,by rw [Lib.cell_of_heap a];exact e,by rw [Lib.cell_of_heap a];exact f,by rw [Lib.cell_of_heap a];exact i,fun j=>Lib.frozen_of_heap a j⟩
theorem gX.slen (h:gX E own pp gb c w vS vM sl ml g):sl.length=g.seats.length:=by rw [←h.seq,List.length_map]
theorem gX.mlen (h:gX E own pp gb c w vS vM sl ml g):ml.length=g.mails.length:=by rw [←h.meq,List.length_map]
theorem gX.seat (h:gX E own pp gb c w vS vM sl ml g) {n:Nat} (o:n < sl.length):∃sb a,vS= .slice (some ⟨sb,0,none⟩) sl.length a∧(∀i,i < 5→w.cell? ⟨sb,n * 5+i,none⟩=(di sl[n].1 sl[n].2)[i]?)∧∀j,w.frozen? ⟨sb,j,none⟩=false:=by
 rcases h.srow.2 with ⟨_,p⟩ | ⟨l,f,k,e,_,d,_,_,_,b⟩
 ·omega
 ·refine ⟨l,f,e,fun i m=>?_,fun j=>Lib.frozen_of_heap d j⟩;rw [Lib.cell_of_heap d,←Array.getElem?_toList,←List.getElem?_take_of_lt (show n * 5+i < sl.length * 5 by omega),b,DG _ _ _ o m]
theorem Hp {α β:Type} {l:List (α×β)} (n:Nat) (y:α×β):(l.set n y).map (·.1)=(l.map (·.1)).set n y.1:=by rw [List.map_set]
theorem gX.putS (h:gX E own pp gb c w vS vM sl ml g) {n i sb l:Nat} (z:n < sl.length) (t:i < 5) (o:vS= .slice (some ⟨sb,0,none⟩) sl.length l) {u:Value} {y:ca×Value} (D:di y.1 y.2=(di sl[n].1 sl[n].2).set i u) (A:iE E own gb vS vM w y.1.tos y.2):gX E own pp gb c (w.setCell ⟨sb,n * 5+i,none⟩ u) vS vM (sl.set n y) ml {g with seats:=g.seats.set n y.1}∧aH (fX gb vS vM) w (w.setCell ⟨sb,n * 5+i,none⟩ u):=by
 have a:vS.ownBlock=some sb:=by rw [o];rfl
 have m:aH (fun k=>k=sb) w (w.setCell ⟨sb,n * 5+i,none⟩ u):=aH.same ((aL.refl _ _).setCell _);have b:aH (fX gb vS vM) w (w.setCell ⟨sb,n * 5+i,none⟩ u):=m.mono (fun k _ e=>by rw [e];exact .inr (.inl a));obtain ⟨C,r,s⟩:=h.blk;have q:=h.srow;rw [o] at q;have d:=Ik (j:=n * 5+i) (x:=u) q;rw [BG z t D,←o] at d
 have p:=h.turn (vS':=vS) (vM':=vM) (sl':=sl.set n y) (ml':=ml) (bad':=g.bad) b ⟨C,m.some_ r (fun e=>((h.tag).1 sb a).1 e.symm),s⟩ (by rw [List.length_set];exact d) (bC h.mrow m (fun k e x=>((h.tag).1 sb a).2 (by rw [←x];exact e))) (fun k e=> .inl e) (fun x f=>by
  rcases List.mem_or_eq_of_mem_set f with f | f
  ·exact h.stos x f
  ·rw [f];exact A) h.mtos
 rw [Hp,h.seq,h.meq] at p;exact ⟨p,b⟩
theorem gX.putB (h:gX E own pp gb c w vS vM sl ml g) (b:Bool):gX E own pp gb c (w.setCell ⟨gb,13,none⟩ (.bool b)) vS vM sl ml {g with bad:=b}∧aH (fX gb vS vM) w (w.setCell ⟨gb,13,none⟩ (.bool b)):=by
 have d:aH (fun k=>k=gb) w (w.setCell ⟨gb,13,none⟩ (.bool b)):=aH.same ((aL.refl _ _).setCell _);have a:aH (fX gb vS vM) w (w.setCell ⟨gb,13,none⟩ (.bool b)):=d.mono (fun k _ e=> .inl e);obtain ⟨C,i,j,l,m,n,o,q⟩:=h.blk;have p:=heap_setCell_same w gb 13 _ _ (.bool b) i;have f:=h.turn (vS':=vS) (vM':=vM) (sl':=sl) (ml':=ml) (bad':=b) a ⟨_,p,by simpa using j,by rw [Array.getElem?_setIfInBounds_ne (by decide)];exact l,by rw [Array.getElem?_setIfInBounds_ne (by decide)];exact m,by rw [Array.getElem?_setIfInBounds_ne (by decide)];exact n,by rw [Array.getElem?_setIfInBounds_ne (by decide)];exact o,by rw [Array.getElem?_setIfInBounds_self_of_lt (by omega)]⟩ (bC h.srow d (fun k e=>((h.tag).1 k e).1)) (bC h.mrow d (fun k e=>(h.tag).2 k e)) (fun k e=> .inl e) h.stos h.mtos
 rw [h.seq,h.meq] at f;exact ⟨f,a⟩
end
theorem zX {P:Program} {t e:TypeId} {i:TypeInfo} {z:Value} {a:Nat} (H:P.underlying t=some (.slice e)) (G:P.info? e=some i) (J:i.zero=some z) (h:i.size=5) (s:i.bytes=a) (x:z.cells.size=5)
  (w W:World) (v:Value) (n:Nat) (p:List Value) (C:Array Value) (m:w.ownsRow 0 e 5 v n p) (D:C.size=5) (I:∀u∈C.toList,u.oneCell'=true) (r:Below w.heap.size w W) (F:W.heap[w.heap.size]? =some (.cells C e (0,0))) (q:n+1≤maxLen) (d:(n+1) * a≤140737488355328):
  ∃g b o,(Builtin.append_ #[t,t] t #[v,.slice (some ⟨w.heap.size,0,none⟩) 1 1]).run P W= .ok (.slice (some ⟨g,0,none⟩) (n+1) b) o∧o.ownsRow 0 e 5 (.slice (some ⟨g,0,none⟩) (n+1) b) (n+1) (p++C.toList)∧aH (fun k=>v.ownBlock=some k) w o∧(v.ownBlock=some g∨w.heap.size≤g):=by
 have f:W.ownsRow 0 e 5 v n p:=aA m fun g y e _=>ae r e;obtain ⟨g,b,o,A,B,j⟩:=gC (P:=P) W t t 0 e i z 5 a H G J h s x (by decide) v n p f ⟨w.heap.size,0,none⟩ 1 1 C.toList (by simpa using D) (World.news_of_block (cs:=C) (t:=e) (fr:=(0,0)) F) I (by decide) q d (Nat.zero_le _);refine ⟨g,b,o,A,B,?_,?_⟩
 ·refine (aH.below r:aH (fun k=>v.ownBlock=some k) w W).trans (A1:=fun k=>v.ownBlock=some k) ?_ (fun k _ e=>e)
  rcases j with ⟨l,j⟩ | ⟨_,j⟩
  ·exact (aH.grown j).mono fun k _ e=>l.trans e
  ·exact (aH.grown j).mono fun k _ e=>by cases e
 ·rcases j with ⟨l,_⟩ | ⟨l,_⟩
  ·exact .inl l
  ·exact .inr (by rw [l];exact r.size)
section
variable {E own:Nat→Prop} {pp gb:Nat} {c:bX} {w w3:World} {vS vM:Value} {sl:List (ca×Value)} {ml:List (aX×Value)} {g g' g'':GS}
theorem gX.addM (h:gX E own pp gb c w vS vM sl ml g) {b a:Nat} {m:aX} {v:Value} (q:w3.ownsRow 0 45 5 (.slice (some ⟨b,0,none⟩) (ml.length+1) a) (ml.length+1) (fJ ml++(aY m v).toList)) (o:aH (fun k=>vM.ownBlock=some k) w w3) (G:vM.ownBlock=some b∨w.heap.size≤b) (H:iE E own gb vS vM w m.tos v):
  gX E own pp gb c (w3.setCell ⟨gb,11,none⟩ (.slice (some ⟨b,0,none⟩) (ml.length+1) a)) vS (.slice (some ⟨b,0,none⟩) (ml.length+1) a) sl (ml++[(m,v)]) {g with mails:=g.mails++[m]}∧aH (fX gb vS vM) w (w3.setCell ⟨gb,11,none⟩ (.slice (some ⟨b,0,none⟩) (ml.length+1) a)):=by
 obtain ⟨C,t,u,y,z,I,A,B⟩:=h.blk;have l:w3.heap[gb]? =some (.cells C 41 (0,0)):=o.some_ t (fun e=>(h.tag).2 gb e rfl)
 have p:b≠gb:=fun e=>by
  obtain ⟨F,f⟩:=dm q (g:=b) rfl;rw [e,l] at f;injection f with f;injection f with _ f _;exact absurd f (by decide)
 obtain ⟨V,s⟩:∃V:Value,.slice (some ⟨b,0,none⟩) (ml.length+1) a=V:=⟨_,rfl⟩;have i:V.ownBlock=some b:=by rw [←s];rfl
 rw [s] at q ⊢;have d:aH (fun k=>k=gb) w3 (w3.setCell ⟨gb,11,none⟩ V):=aH.same ((aL.refl _ _).setCell _);have j:aH (fX gb vS vM) w (w3.setCell ⟨gb,11,none⟩ V):=(o.mono (fun k _ e=> .inr (.inr e))).trans d (fun k _ e=> .inl e);have D:=heap_setCell_same w3 gb 11 _ _ V l
 have r:=h.turn (vS':=vS) (vM':=V) (sl':=sl) (ml':=ml++[(m,v)]) (bad':=g.bad) j ⟨_,D,by simpa using u,by rw [Array.getElem?_setIfInBounds_ne (by decide)];exact y,by rw [Array.getElem?_setIfInBounds_ne (by decide)];exact z,by rw [Array.getElem?_setIfInBounds_self_of_lt (by omega)],by rw [Array.getElem?_setIfInBounds_ne (by decide)];exact A,by rw [Array.getElem?_setIfInBounds_ne (by decide)];exact B⟩ (bC (bC h.srow o (fun k e=>(h.tag).1 k e |>.2)) d (fun k e=>((h.tag).1 k e).1)) (by
  rw [List.length_append,List.length_singleton,qa];exact bC q d (fun k e x=>p (by rw [i] at e;injection e with e;rw [e];exact x))) (fun k e=>by
  rcases e with e | e | e
  ·exact .inl (.inl e)
  ·exact .inl (.inr (.inl e))
  ·rw [i] at e;injection e with e;rw [←e];exact G.imp (fun x=> .inr (.inr x)) id) h.stos (fun x n=>by
  rcases List.mem_append.1 n with n | n
  ·exact h.mtos x n
  ·rw [List.mem_singleton.1 n];exact H)
 rw [h.seq,List.map_append,h.meq] at r;exact ⟨r,j⟩
theorem gX.addS (h:gX E own pp gb c w vS vM sl ml g) {b a:Nat} {x:ca} {v:Value} (p:w3.ownsRow 0 51 5 (.slice (some ⟨b,0,none⟩) (sl.length+1) a) (sl.length+1) (gL sl++di x v)) (n:aH (fun k=>vS.ownBlock=some k) w w3) (G:vS.ownBlock=some b∨w.heap.size≤b) (H:iE E own gb vS vM w x.tos v):
  gX E own pp gb c (w3.setCell ⟨gb,10,none⟩ (.slice (some ⟨b,0,none⟩) (sl.length+1) a)) (.slice (some ⟨b,0,none⟩) (sl.length+1) a) vM (sl++[(x,v)]) ml {g with seats:=g.seats++[x]}∧aH (fX gb vS vM) w (w3.setCell ⟨gb,10,none⟩ (.slice (some ⟨b,0,none⟩) (sl.length+1) a)):=by
 obtain ⟨C,s,t,u,I,z,A,B⟩:=h.blk;have l:w3.heap[gb]? =some (.cells C 41 (0,0)):=n.some_ s (fun e=>((h.tag).1 gb e).1 rfl)
 have o:b≠gb:=fun e=>by
  obtain ⟨F,f⟩:=dm p (g:=b) rfl;rw [e,l] at f;injection f with f;injection f with _ f _;exact absurd f (by decide)
 obtain ⟨V,q⟩:∃V:Value,.slice (some ⟨b,0,none⟩) (sl.length+1) a=V:=⟨_,rfl⟩;have i:V.ownBlock=some b:=by rw [←q];rfl
 rw [q] at p ⊢;have d:aH (fun k=>k=gb) w3 (w3.setCell ⟨gb,10,none⟩ V):=aH.same ((aL.refl _ _).setCell _);have j:aH (fX gb vS vM) w (w3.setCell ⟨gb,10,none⟩ V):=(n.mono (fun k _ e=> .inr (.inl e))).trans d (fun k _ e=> .inl e);have D:=heap_setCell_same w3 gb 10 _ _ V l
 have r:=h.turn (vS':=V) (vM':=vM) (sl':=sl++[(x,v)]) (ml':=ml) (bad':=g.bad) j ⟨_,D,by simpa using t,by rw [Array.getElem?_setIfInBounds_ne (by decide)];exact u,by rw [Array.getElem?_setIfInBounds_self_of_lt (by omega)],by rw [Array.getElem?_setIfInBounds_ne (by decide)];exact z,by rw [Array.getElem?_setIfInBounds_ne (by decide)];exact A,by rw [Array.getElem?_setIfInBounds_ne (by decide)];exact B⟩ (by
  rw [List.length_append,List.length_singleton,zv];exact bC p d (fun k e x=>o (by rw [i] at e;injection e with e;rw [e];exact x))) (bC (bC h.mrow n (fun k e x=>((h.tag).1 k x).2 e)) d (fun k e=>(h.tag).2 k e)) (fun k e=>by
  rcases e with e | e | e
  ·exact .inl (.inl e)
  ·rw [i] at e;injection e with e;rw [←e];exact G.imp (fun x=> .inr (.inl x)) id
  ·exact .inl (.inr (.inr e))) (fun y m=>by
  rcases List.mem_append.1 m with m | m
  ·exact h.stos y m
  ·rw [List.mem_singleton.1 m];exact H) h.mtos
 rw [h.meq,List.map_append,h.seq] at r;exact ⟨r,j⟩
end
theorem E8:(Tryz.prog.info? 51).map (fun i=>(i.zero,i.size,i.bytes))=some (some (.agg #[.int .i64 0,.bool false,.bool false,.bool false,.slice none 0 0]),5,40):=by kernel_rfl
section
variable {E own:Nat→Prop} {pp gb:Nat} {c:bX} {w:World} {vS vM:Value} {sl:List (ca×Value)} {ml:List (aX×Value)} {g:GS}
theorem gX.appM (h:gX E own pp gb c w vS vM sl ml g) {m:aX} {v:Value} (y:v.oneCell'=true) (x:iE E own gb vS vM w m.tos v) (I:ml.length≤1048576):∃b a w3,(Builtin.append_ #[35,35] 35 #[vM,.slice (some ⟨w.heap.size,0,none⟩) 1 1]).run Tryz.prog (w.alloc (.cells (aY m v) 45))= .ok (.slice (some ⟨b,0,none⟩) (ml.length+1) a) w3∧w3.cell? ⟨gb,11,none⟩=some vM∧w3.frozen? ⟨gb,11,none⟩=false∧gX E own pp gb c (w3.setCell ⟨gb,11,none⟩ (.slice (some ⟨b,0,none⟩) (ml.length+1) a)) vS (.slice (some ⟨b,0,none⟩) (ml.length+1) a) sl (ml++[(m,v)]) {g with mails:=g.mails++[m]}∧aH (fX gb vS vM) w (w3.setCell ⟨gb,11,none⟩ (.slice (some ⟨b,0,none⟩) (ml.length+1) a))∧(vM.ownBlock=some b∨w.heap.size≤b):=by
 obtain ⟨i,t,f,j,k⟩:=info_parts xL
 obtain ⟨b,a,w3,z,A,n,o⟩:=zX (P:=Tryz.prog) Tryz.underlying35 t f j k rfl w (w.alloc (.cells (aY m v) 45)) vM ml.length (fJ ml) (aY m v) h.mrow rfl (by
  intro u l;simp only [aY,List.mem_cons,List.not_mem_nil,or_false] at l
  rcases l with rfl | rfl | rfl | rfl | rfl
  ·rfl
  ·rfl
  ·rfl
  ·exact y
  ·rfl) ((Below.refl _ _).alloc (Nat.le_refl _) _) (heap_alloc_new w _) (by unfold maxLen;omega) (by omega)
 obtain ⟨p,q⟩:=h.addM A n o x;obtain ⟨C,r,B,D,F,s,G,H⟩:=h.blk;have d:w3.heap[gb]? =some (.cells C 41 (0,0)):=n.some_ r (fun e=>(h.tag).2 gb e rfl);exact ⟨b,a,w3,z,by rw [Lib.cell_of_heap d];exact s,Lib.frozen_of_heap d 11,p,q,o⟩
theorem gX.appS (h:gX E own pp gb c w vS vM sl ml g) (a:Int) (H:sl.length≤1048576):∃d b w3,(Builtin.append_ #[39,39] 39 #[vS,.slice (some ⟨w.heap.size,0,none⟩) 1 1]).run Tryz.prog (w.alloc (.cells #[.int .i64 a,.bool false,.bool false,.bool false,.slice none 0 0] 51))= .ok (.slice (some ⟨d,0,none⟩) (sl.length+1) b) w3∧w3.cell? ⟨gb,10,none⟩=some vS∧w3.frozen? ⟨gb,10,none⟩=false∧gX E own pp gb c (w3.setCell ⟨gb,10,none⟩ (.slice (some ⟨d,0,none⟩) (sl.length+1) b)) (.slice (some ⟨d,0,none⟩) (sl.length+1) b) vM (sl++[(⟨a,false,false,false,[]⟩,.slice none 0 0)]) ml {g with seats:=g.seats++[⟨a,false,false,false,[]⟩]}∧aH (fX gb vS vM) w (w3.setCell ⟨gb,10,none⟩ (.slice (some ⟨d,0,none⟩) (sl.length+1) b))∧(vS.ownBlock=some d∨w.heap.size≤d):=by
 obtain ⟨i,t,j,k,l⟩:=info_parts E8
 obtain ⟨d,b,w3,y,z,n,o⟩:=zX (P:=Tryz.prog) Tryz.underlying39 t j k l rfl w (w.alloc (.cells #[.int .i64 a,.bool false,.bool false,.bool false,.slice none 0 0] 51)) vS sl.length (gL sl) #[.int .i64 a,.bool false,.bool false,.bool false,.slice none 0 0] h.srow rfl (by
  intro u m;simp only [List.mem_cons,List.not_mem_nil,or_false] at m
  rcases m with rfl | rfl | rfl | rfl | rfl <;> rfl) ((Below.refl _ _).alloc (Nat.le_refl _) _) (heap_alloc_new w _) (by unfold maxLen;omega) (by omega)
 obtain ⟨p,q⟩:=h.addS (x:=⟨a,false,false,false,[]⟩) (v:= .slice none 0 0) z n o (iE.nil _);obtain ⟨C,r,A,B,s,D,F,G⟩:=h.blk;have f:w3.heap[gb]? =some (.cells C 41 (0,0)):=n.some_ r (fun e=>((h.tag).1 gb e).1 rfl);exact ⟨d,b,w3,y,by rw [Lib.cell_of_heap f];exact s,Lib.frozen_of_heap f 10,p,q,o⟩
end
def cX (E own:Nat→Prop) (pp gb:Nat) (c:bX) (w:World) (vS vM:Value) (g':GS) (w':World):Prop:=
 ∃own' vS' vM' sl' ml',gX E own' pp gb c w' vS' vM' sl' ml' g'∧(∀k,own' k∨fX gb vS' vM' k→own k∨fX gb vS vM k∨w.heap.size≤k)∧aH (fun k=>k=pp∨own k∨fX gb vS vM k) w w'
section
variable {E own own1:Nat→Prop} {pp gb:Nat} {c:bX} {w w1 w2:World} {vS vM vS1 vM1:Value} {sl sl1:List (ca×Value)} {ml ml1:List (aX×Value)} {g g':GS}
theorem cX.refl (h:gX E own pp gb c w vS vM sl ml g):cX E own pp gb c w vS vM g w:=⟨own,vS,vM,sl,ml,h,fun _ e=>e.imp id .inl,aH.refl _ _⟩
theorem cX.below (h:gX E own pp gb c w vS vM sl ml g) (a:Below w.heap.size w w1):cX E own pp gb c w vS vM g w1:=⟨own,vS,vM,sl,ml,h.below a,fun _ e=>e.imp id .inl,aH.below a⟩
theorem cX.from (j:Below w.heap.size w w1) (h:cX E own pp gb c w1 vS vM g' w2):cX E own pp gb c w vS vM g' w2:=by
 obtain ⟨a,i,f,d,b,l,m,n⟩:=h
 exact ⟨a,i,f,d,b,l,fun k e=>by
  rcases m k e with x | x | x
  ·exact .inl x
  ·exact .inr (.inl x)
  ·exact .inr (.inr (Nat.le_trans j.size x)),(aH.below j).trans n (fun _ _ e=>e)⟩
theorem cX.then (d:∀k,own1 k∨fX gb vS1 vM1 k→own k∨fX gb vS vM k∨w.heap.size≤k) (m:aH (fun k=>k=pp∨own k∨fX gb vS vM k) w w1) (h:cX E own1 pp gb c w1 vS1 vM1 g' w2):cX E own pp gb c w vS vM g' w2:=by
 obtain ⟨b,l,j,i,f,n,o,p⟩:=h
 have a:∀k,own1 k∨fX gb vS1 vM1 k∨w1.heap.size≤k→own k∨fX gb vS vM k∨w.heap.size≤k:=fun k e=>by
  rcases e with e | e | e
  ·exact d k (.inl e)
  ·exact d k (.inr e)
  ·exact .inr (.inr (Nat.le_trans m.size e))
 refine ⟨b,l,j,i,f,n,fun k e=>a k (o k e),m.trans p (fun k q e=>?_)⟩
 rcases e with e | e | e
 ·exact .inl e
 ·rcases d k (.inl e) with x | x | x
  ·exact .inr (.inl x)
  ·exact .inr (.inr x)
  ·omega
 ·rcases d k (.inr e) with x | x | x
  ·exact .inr (.inl x)
  ·exact .inr (.inr x)
  ·omega
theorem cX.turned (a:aH (fX gb vS vM) w w1) (b:∀k,fX gb vS1 vM1 k→fX gb vS vM k∨w.heap.size≤k) (h:cX E own pp gb c w1 vS1 vM1 g' w2):cX E own pp gb c w vS vM g' w2:=
 cX.then (fun k e=>e.elim .inl (fun e=> .inr (b k e))) (a.mono (fun _ _ e=> .inr (.inr e))) h
theorem cX.called (b:∀k,own1 k→own k∨w.heap.size≤k) (a:aH (fun k=>k=pp∨own k) w w1) (h:cX E own1 pp gb c w1 vS vM g' w2):cX E own pp gb c w vS vM g' w2:=
 cX.then (fun k e=>e.elim (fun e=>(b k e).imp id .inr) (fun e=> .inr (.inl e))) (a.mono (fun _ _ e=>e.imp id .inl)) h
end
section
variable {E own:Nat→Prop} {pp gb:Nat} {c:bX} {w:World} {vS vM:Value} {sl:List (ca×Value)} {ml:List (aX×Value)} {g:GS} {n:Nat} {s:bG} {x:ca} {l:List UInt8}
def fN (c:bX) (g:GS) (n:Nat) (s:bG) (l:List UInt8):GS:={g with S:=(aO c s g.S g.recs l false).2.1,recs:=(aO c s g.S g.recs l false).2.2.1,l:=g.l.set n (if (aO c s g.S g.recs l false).1.over then none else some (aO c s g.S g.recs l false).1),d:=oS g.S (aO c s g.S g.recs l false).2.1 g.d}
structure Gh (E own:Nat→Prop) (pp gb:Nat) (c:bX) (w:World) (vS vM:Value) (sl:List (ca×Value)) (ml:List (aX×Value)) (g:GS) (n:Nat) (s:bG) (l:List UInt8) (own1:Nat→Prop) (w1:World):Prop where
 at_:gX E own1 pp gb c w1 vS vM sl ml (fN c g n s l)
 ho:∀k,own1 k→own k∨w.heap.size≤k
 hc:aH (fun k=>k=pp∨own k) w w1
theorem qW (h:gX E own pp gb c w vS vM sl ml g) (t:g.l[n]? =some (some s)) (f:tr l) (b:km x s):
  Calls Tryz.prog 14 #[.pointer (some ⟨pp,0,none⟩),.int .i64 (n:Int),.string (bs l++⟨#[13,10]⟩)] w fun e u=>e= .returned (.tuple #[.string (bs (aO c s g.S g.recs l false).2.2.2.flatten),.int .i64 0])∧∃a,Gh E own pp gb c w vS vM sl ml g n s l a u:=by
 obtain ⟨m,o,p⟩:=uQ f.ok;have d:=h.post.recv n t (l++[13,10]) (by rw [List.length_append];simp only [List.length_cons,List.length_nil];omega);rw [E6 c s g.S g.recs f.ok b.over b.wait,←cE] at d;refine d.mono ?_;rintro e v ⟨rfl,r⟩;have q:=lP c s g.S g.recs l false;obtain ⟨a,i,j,k⟩:=h.call r q.time;exact ⟨rfl,a,i,j,k⟩
theorem qx (h:gX E own pp gb c w vS vM sl ml g) (d:g.seats[n]? =some x):∃b:n < sl.length,∃v,sl[n]=(x,v):=by
 obtain ⟨b,e⟩:=List.getElem?_eq_some_iff.1 d;have a:n < sl.length:=by rw [h.slen];exact b
 refine ⟨a,sl[n].2,?_⟩;have:(sl.map (·.1))[n]? =some x:=by rw [h.seq];exact d
 rw [List.getElem?_map,List.getElem?_eq_getElem a] at this;have e:sl[n].1=x:=by simpa using this
 rw [←e]
theorem BI {α:Type} {l:List α} {n:Nat} {x:α} (h:l[n]? =some x):l.set n x=l:=by
 apply List.ext_getElem?;intro i
 by_cases e:n=i
 ·subst e;obtain ⟨a,_⟩:=List.getElem?_eq_some_iff.1 h;rw [List.getElem?_set_self a,h]
 ·rw [List.getElem?_set_ne e]
theorem bO (l:List UInt8) (f:l.length≤100) (t:ByteArray) (h:t.size≤100) (b:Bool) (a:bu l t.data.toList=b) (W:World):Calls Tryz.prog 53 #[.string (bs l),.string t] W fun e d=>e= .returned (.bool b)∧W=d:=by
 have:=uu (bs l) t W (by rw [aG];omega) (by omega);rw [aI,a] at this;exact this
theorem uX (l:List UInt8):∃a b d e:Bool,bu l [82,83,69,84]=a∧bu l [77,65,73,76]=b∧bu l [72,69,76,79]=d∧bu l [69,72,76,79]=e∧j3 l=(a || b || d || e):=⟨_,_,_,_,rfl,rfl,rfl,rfl,rfl⟩
theorem FP (L:dX c) (h:gX E own pp gb c w vS vM sl ml g) (hi:hJ g) (hs:g.l[n]? =some (some s)) (V:g.seats[n]? =some x) (hl:l∈LL) (m:x.inside=true) (u:l≠[46]):
  Calls Tryz.prog 32 #[.pointer (some ⟨gb,0,none⟩),.int .i64 (n:Int),.string (bs l)] w fun e w'=>e= .returned (.tuple #[])∧cX E own pp gb c w vS vM (fI c g n s x l) w':=by
 have f:=pZ hl;have p:km x s:=hi.seat n x _ V hs;have j:=(uQ f.ok).1;obtain ⟨U,v,hv⟩:=qx h V;have c0:=h.cells.1;have F:=h.cells.2.1;obtain ⟨sb,a7,ev,M,_⟩:=h.seat U;rw [ev] at F;have Z:=qW h hs f p;have eo:=(xR (c:=c) (S:=g.S) (recs:=g.recs) (l:=l) p m).1 u;obtain ⟨q1,q2,q3⟩:=qR (S:=g.S) (recs:=g.recs) f L.doms p
 have eG:fI c g n s x l=fN c g n s l:=by
  unfold fI fN;rw [eo];have Q:gH x l []=x:=by unfold gH;rw [if_pos ⟨m,u⟩]
  have R:fL x l []=[]:=by unfold fL;rw [if_neg (fun e=>u e.2.1)]
  have T:dp x l []=false:=by unfold dp;rw [if_pos ⟨m,u⟩];rfl
  rw [Q,R,T,BI V,List.append_nil,Bool.or_false]
 rw [eG];rw [eo] at Z;have D:=Lib.hid Z;have a3:(n:Int) < (sl.length:Int):=by omega
 have hz:=aG l;obtain ⟨r,y,O,W,Q,R,T,e4,_⟩:=uX l;obtain ⟨au,G⟩:∃b,bu l [65,85,84,72]=b:=⟨_,rfl⟩;obtain ⟨rc,I⟩:∃b,bu l [82,67,80,84]=b:=⟨_,rfl⟩;obtain ⟨qu,H⟩:∃b,bu l [81,85,73,84]=b:=⟨_,rfl⟩;have z:=Lib.hid (bO l j ⟨#[65,85,84,72]⟩ (by decide) au G);have A:=Lib.hid (bO l j ⟨#[82,67,80,84]⟩ (by decide) rc I);have B:=Lib.hid (bO l j ⟨#[81,85,73,84]⟩ (by decide) qu H);have C:=Lib.hid (bO l j ⟨#[82,83,69,84]⟩ (by decide) r Q);have P:=Lib.hid (bO l j ⟨#[77,65,73,76]⟩ (by decide) y R);have X:=Lib.hid (bO l j ⟨#[72,69,76,79]⟩ (by decide) O T);have A7:=Lib.hid (bO l j ⟨#[69,72,76,79]⟩ (by decide) W e4);have a6:=Lib.hid M;have HV:=Lib.hid hv;have HB:=Lib.hid hi.bad;have Y:=Lib.hid m;have a9:((bs l).toList == [46])=false:=by rw [ByteArray.toList_eq,aI,beq_eq_false_iff_ne];exact u
 obtain ⟨N,eN⟩:∃N,sl.length=N:=⟨_,rfl⟩;rw [eN] at F a3;clear Z h hi hs V hl p f M hv q1 q2 q3 eo eG L Q R T e4 G I H eN m u;go_enter Tryz.func32,Tryz.ntmps32;go_wp2_with fail
 refine D.out.mono ?_;rintro e w1 ⟨rfl,a5,K⟩;have a0:=K.at_.cells.2.2.2.2.1;have a8:=K.at_.cells.2.2.2.2.2 13;obtain ⟨b1,_⟩:∃U:n < sl.length,True:=⟨U,trivial⟩;obtain ⟨b2,a4,J,q,_⟩:=K.at_.seat U;rw [ev] at J;injection J with ev1 _ _;injection ev1 with ev1;injection ev1 with ev1;subst ev1;have d2:w1.cell? ⟨sb,n * 5+2,none⟩=some (.bool true):=by rw [q 2 (by decide),HV.out,←Y.out];rfl
 have t:(fN c g n s l).bad=false:=HB.out;rw [t] at a0;have i:=Lib.hid K;clear K q D;have h0:(bs ([]:List UInt8)).size=0:=rfl;have b0:(bs ([]:List UInt8)).toList.isEmpty=true:=by rw [ByteArray.toList_eq,aI];rfl
 have hr:r=true∨(r=false∧y=true)∨(r=false∧y=false∧O=true)∨(r=false∧y=false∧O=false∧W=true)∨(r=false∧y=false∧O=false∧W=false):=by cases r <;> cases y <;> cases O <;> cases W <;> simp
 rcases hr with rfl | ⟨rfl,rfl⟩ | ⟨rfl,rfl,rfl⟩ | ⟨rfl,rfl,rfl,rfl⟩ | ⟨rfl,rfl,rfl,rfl⟩
 ·skip
  go_wp2_with fail
  refine (z.out _).mono ?_;rintro e a ⟨rfl,rfl⟩;go_wp2_with fail
  refine (A.out _).mono ?_;rintro e a ⟨rfl,rfl⟩;go_wp2_with fail
  refine (B.out _).mono ?_;rintro e a ⟨rfl,rfl⟩;go_wp2_with fail
  refine (C.out _).mono ?_;rintro e a ⟨rfl,rfl⟩;go_wp2_with fail
  refine bodyPost_end (results_none rfl _ _ _) rfl ?_;obtain ⟨d,o⟩:=i.out.at_.putB false;have d:=d.same (show _=fN c g n s l by rw [←t]);exact ⟨rfl,cX.called i.out.ho i.out.hc (cX.turned o (fun k e=> .inl e) (cX.refl d))⟩
 ·skip
  go_wp2_with fail
  refine (z.out _).mono ?_;rintro e a ⟨rfl,rfl⟩;go_wp2_with fail
  refine (A.out _).mono ?_;rintro e a ⟨rfl,rfl⟩;go_wp2_with fail
  refine (B.out _).mono ?_;rintro e a ⟨rfl,rfl⟩;go_wp2_with fail
  refine (C.out _).mono ?_;rintro e a ⟨rfl,rfl⟩;go_wp2_with fail
  refine (P.out _).mono ?_;rintro e a ⟨rfl,rfl⟩;go_wp2_with fail
  refine bodyPost_end (results_none rfl _ _ _) rfl ?_;obtain ⟨d,o⟩:=i.out.at_.putB false;have d:=d.same (show _=fN c g n s l by rw [←t]);exact ⟨rfl,cX.called i.out.ho i.out.hc (cX.turned o (fun k e=> .inl e) (cX.refl d))⟩
 ·skip
  go_wp2_with fail
  refine (z.out _).mono ?_;rintro e a ⟨rfl,rfl⟩;go_wp2_with fail
  refine (A.out _).mono ?_;rintro e a ⟨rfl,rfl⟩;go_wp2_with fail
  refine (B.out _).mono ?_;rintro e a ⟨rfl,rfl⟩;go_wp2_with fail
  refine (C.out _).mono ?_;rintro e a ⟨rfl,rfl⟩;go_wp2_with fail
  refine (P.out _).mono ?_;rintro e a ⟨rfl,rfl⟩;go_wp2_with fail
  refine (X.out _).mono ?_;rintro e a ⟨rfl,rfl⟩;go_wp2_with fail
  refine bodyPost_end (results_none rfl _ _ _) rfl ?_;obtain ⟨d,o⟩:=i.out.at_.putB false;have d:=d.same (show _=fN c g n s l by rw [←t]);exact ⟨rfl,cX.called i.out.ho i.out.hc (cX.turned o (fun k e=> .inl e) (cX.refl d))⟩
 ·skip
  go_wp2_with fail
  refine (z.out _).mono ?_;rintro e a ⟨rfl,rfl⟩;go_wp2_with fail
  refine (A.out _).mono ?_;rintro e a ⟨rfl,rfl⟩;go_wp2_with fail
  refine (B.out _).mono ?_;rintro e a ⟨rfl,rfl⟩;go_wp2_with fail
  refine (C.out _).mono ?_;rintro e a ⟨rfl,rfl⟩;go_wp2_with fail
  refine (P.out _).mono ?_;rintro e a ⟨rfl,rfl⟩;go_wp2_with fail
  refine (X.out _).mono ?_;rintro e a ⟨rfl,rfl⟩;go_wp2_with fail
  refine (A7.out _).mono ?_;rintro e a ⟨rfl,rfl⟩;go_wp2_with fail
  refine bodyPost_end (results_none rfl _ _ _) rfl ?_;obtain ⟨d,o⟩:=i.out.at_.putB false;have d:=d.same (show _=fN c g n s l by rw [←t]);exact ⟨rfl,cX.called i.out.ho i.out.hc (cX.turned o (fun k e=> .inl e) (cX.refl d))⟩
 ·skip
  go_wp2_with fail
  refine (z.out _).mono ?_;rintro e a ⟨rfl,rfl⟩;go_wp2_with fail
  refine (A.out _).mono ?_;rintro e a ⟨rfl,rfl⟩;go_wp2_with fail
  refine (B.out _).mono ?_;rintro e a ⟨rfl,rfl⟩;go_wp2_with fail
  refine (C.out _).mono ?_;rintro e a ⟨rfl,rfl⟩;go_wp2_with fail
  refine (P.out _).mono ?_;rintro e a ⟨rfl,rfl⟩;go_wp2_with fail
  refine (X.out _).mono ?_;rintro e a ⟨rfl,rfl⟩;go_wp2_with fail
  refine (A7.out _).mono ?_;rintro e a ⟨rfl,rfl⟩;go_wp2_with fail
  refine bodyPost_end (results_none rfl _ _ _) rfl ?_;obtain ⟨d,o⟩:=i.out.at_.putB false;have d:=d.same (show _=fN c g n s l by rw [←t]);exact ⟨rfl,cX.called i.out.ho i.out.hc (cX.turned o (fun k e=> .inl e) (cX.refl d))⟩
end
end Go.Proofs.YtofpegbpgkkgkaaGreatDoor
