import Derived.Test.YtofpegbpgkkgkaaGreatDoorS26
import Derived.Test.YtofpegbpgkkgkaaGreatDoorS28
namespace Go.Proofs.YtofpegbpgkkgkaaGreatDoor
set_option maxHeartbeats 8000000
set_option maxRecDepth 1000000
open Go.RowKit
section
variable {E B:Nat→Prop} {pp pb mb:Nat} {c:bX} {w w':World} {q:Nat→Nat} {vr:Value} {S S':bp} {recs recs':List UInt8} {vs:Value} {ps:List Value} {sb ch:Nat} {A:Nat→Prop} {vw:Value} {s s':bG}
theorem CP (sb:Nat) (b:Bool) (w:World) (h:w.cell? ⟨sb,7,none⟩=some (.bool b)):Calls Tryz.prog 65 #[.pointer (some ⟨sb,0,none⟩)] w fun e w'=>e= .returned (.bool b)∧w=w':=by
 go_enter Tryz.func65,Tryz.ntmps65;go_wp2_with fail
 go_ret;exact ⟨rfl,rfl⟩
theorem uo [Kn] (h:dR E pp pb mb c w q vr S recs vs ps) (n:Nat) (m:n < ps.length) (_:ps.length≤100) (p:Option Addr) (j:ps[n]= .pointer p):
  Calls Tryz.prog 38 #[.pointer (some ⟨pp,0,none⟩),.int .i64 (n:Int)] w fun e w'=>e= .returned (.bool p.isSome)∧w=w':=by
 have d:=h.cell10;obtain ⟨g,k,l,f,i,b⟩:=h.at m;have o:w.cell? ⟨g,n,none⟩=some (.pointer p):=by rw [Lib.cell_of_heap i,b,j]
 rw [f] at d;have t:(n:Int) < (ps.length:Int):=by omega
 have r:(0:Int)≤(n:Int):=by omega
 clear h f i b j
 cases p with
 | none=>
  go_enter Tryz.func38,Tryz.ntmps38;go_wp2_with fail
  go_ret;exact ⟨rfl,rfl⟩
 | some a=>
  go_enter Tryz.func38,Tryz.ntmps38;go_wp2_with fail
  go_ret;exact ⟨rfl,rfl⟩
theorem GK [Kn] (h:dR E pp pb mb c w q vr S recs vs ps) (n:Nat) (p:n < ps.length) (_:ps.length≤100) (l:ps[n]= .pointer (some ⟨sb,0,none⟩)) (b:Bool) (r:w.cell? ⟨sb,7,none⟩=some (.bool b)) (u:FrameMode):
  CallsD Tryz.prog 39 #[.pointer (some ⟨pp,0,none⟩),.int .i64 (n:Int)] u w fun e u' w'=>u'=u∧e= .returned (.tuple #[])∧∃g a,vs= .slice (some ⟨g,0,none⟩) ps.length a∧w'=if b then w.setCell ⟨g,n,none⟩ (.pointer none) else w:=by
 have m:=Lib.hid (CP sb b w r);have i:=h.cell10;obtain ⟨g,a,o,j,k,d⟩:=h.at p;have t:w.cell? ⟨g,n,none⟩=some (.pointer (some ⟨sb,0,none⟩)):=by rw [Lib.cell_of_heap k,d,l]
 have v:=Lib.frozen_of_heap k n;have x:(n:Int) < (ps.length:Int):=by omega
 rw [j] at i;have f:=Lib.hid j;clear h l j k d;go_enter_d Tryz.func39,Tryz.ntmps39
 go_wp2_with fail
 refine m.out.mono ?_;rintro e w' ⟨rfl,rfl⟩
 cases b with
 | true=>
  go_wp2_with fail
  go_end0
  exact ⟨rfl,g,⟨a,f.out⟩,rfl⟩
 | false=>
  go_wp2_with fail
  go_end0
  exact ⟨rfl,⟨g,a,f.out⟩,rfl⟩
def zR [Kn] (E:Nat→Prop) (pp pb mb:Nat) (c:bX) (w:World) (q:Nat→Nat) (vr:Value) (S:bp) (vs:Value) (ps:List Value) (sb ch:Nat) (A:Nat→Prop) (vw:Value) (n:Nat) (s':bG) (S':bp) (recs':List UInt8) (w':World):Prop:=
 ∃A' q' vr' vw',gY E pp pb mb c w' q' vr' S' recs' vs (if s'.over then ps.set n (.pointer none) else ps) sb ch A' vw' s'∧(∀k,kJ w' pb mb A' q' vr' S' vw' vs k→kJ w pb mb A q vr S vw vs k∨w.heap.size≤k)∧aH (kJ w pb mb A q vr S vw vs) w w'
theorem Bz [Kn] (h:gY E pp pb mb c w q vr S recs vs ps sb ch A vw s) (I:gM c s S recs) (n:Nat) (o:n < ps.length) (J:ps.length≤100) (p:ps[n]= .pointer (some ⟨sb,0,none⟩)) (a:List UInt8) (v:a.length≤1048576):
  Calls Tryz.prog 14 #[.pointer (some ⟨pp,0,none⟩),.int .i64 (n:Int),.string (bs a)] w fun e w'=>e= .returned (.tuple #[.string (bs (cL c (s,S,recs,[]) a).2.2.2),.int .i64 0])∧zR E pp pb mb c w q vr S vs ps sb ch A vw n (cL c (s,S,recs,[]) a).1 (cL c (s,S,recs,[]) a).2.1 (cL c (s,S,recs,[]) a).2.2.1 w':=by
 have O:=Lib.hid (uo h.post n o J _ p);have t:=h.post.cell10;obtain ⟨g,Q,R,D,H,d⟩:=h.post.at o;have Z:w.cell? ⟨g,n,none⟩=some (.pointer (some ⟨sb,0,none⟩)):=by rw [Lib.cell_of_heap H,d,p]
 have h1:(n:Int) < (ps.length:Int):=by omega
 rw [D] at t;have z:=Lib.hid (GV h.rest I a v);have P:=Lib.hid h;have r:=Lib.hid p;obtain ⟨x,F⟩:∃x,cL c (s,S,recs,[]) a=x:=⟨_,rfl⟩;rw [F] at z ⊢;clear h p D H d I F;go_enter_defers Tryz.func14,Tryz.ntmps14
 go_wp2_with fail
 refine O.out.mono ?_;rintro e w' ⟨rfl,rfl⟩;go_wp2_with fail
 refine z.out.mono ?_;rintro e Y ⟨rfl,G⟩;obtain ⟨y,N,l,m,K,L,M⟩:=P.out.heard G;have b:=Lib.hid K;have i:=Lib.hid L;have j:=Lib.hid M;clear K L M G;go_wp2_with fail
 obtain ⟨vx,T,_⟩:=b.out.ses.ex;have u:Y.cell? ⟨sb,7,none⟩=some (.bool x.1.over):=T.cell 7;refine leaves_cons (f:=39) (args:=#[.pointer (some ⟨pp,0,none⟩),.int .i64 (n:Int)]) (by simp) (by simp [go_sem]) ?_;refine (GK b.out.post n o J r.out x.1.over u .returning).mono ?_;rintro e u' w2 ⟨rfl,rfl,g',C,U,rfl⟩;refine ⟨.tuple #[.string (bs x.2.2.2),.int .i64 0],by simp [results,Tryz.results14,go_sem],rfl,?_⟩
 unfold zR
 cases x.1.over with
 | false=>exact ⟨y,N,l,m,b.out,i.out,j.out⟩
 | true=>
  obtain ⟨V,W,X⟩:=b.out.put (x:= .pointer none) U o;exact ⟨y,N,l,m,V,fun k e=>i.out k (W k e),j.out.trans X (fun k hk e=>(i.out k e).elim id (fun e=>by omega))⟩
end
section
variable {E B:Nat→Prop} {pp pb mb:Nat} {c:bX} {w w':World} {q:Nat→Nat} {vr:Value} {S:bp} {recs:List UInt8} {vs:Value} {l:List (Option eH)} {x:eH}
theorem bQ.clt [Kn] (_:bQ E pp pb mb c w q vr S recs vs l) {n:Nat} (d:l[n]? =some (some x)):n < (l.map fC).length∧∃a:n < (l.map fC).length,(l.map fC)[n]= .pointer (some ⟨x.sb,0,none⟩):=by
 obtain ⟨b,e⟩:=List.getElem?_eq_some_iff.1 d;have a:n < (l.map fC).length:=by rw [List.length_map];exact b
 exact ⟨a,a,by rw [List.getElem_map,e];rfl⟩
theorem bQ.drop [Kn] (h:bQ E pp pb mb c w q vr S recs vs l) {g d n:Nat} (j:vs= .slice (some ⟨g,0,none⟩) (l.map fC).length d) (u:n < (l.map fC).length):bQ E pp pb mb c (w.setCell ⟨g,n,none⟩ (.pointer none)) q vr S recs vs (l.set n none)∧(∀k,ee (w.setCell ⟨g,n,none⟩ (.pointer none)) pb mb q vr S vs (l.set n none) k→ee w pb mb q vr S vs l k)∧aH (ee w pb mb q vr S vs l) w (w.setCell ⟨g,n,none⟩ (.pointer none)):=by
 obtain ⟨A,p,r⟩:=h.post.put (x:= .pointer none) j u;have b:vs.ownBlock=some g:=by rw [j];rfl
 have a:∀{m:Nat} {y:eH},(l.set n none)[m]? =some (some y)→m≠n∧l[m]? =some (some y):=fun e=>by
  rcases qY e with ⟨_,e⟩ | e
  ·cases e
  ·exact e
 refine ⟨⟨by rw [En];exact A,fun m y i=>?_,fun v z C D f s t=>h.apart v z C D f (a s).2 (a t).2,by rw [List.length_set];exact h.len,h.keep⟩,fun k e=>?_,r.mono (fun k _ e=> .inr (.inl (by rw [e];exact b)))⟩
 ·have o:=h.ok m y (a i).2;exact o.chg r (fun k e x=>o.fs k e (by rw [x];exact b)) p
 ·rcases e with e | e | ⟨m,y,i,e⟩
  ·exact .inl (p k e)
  ·exact .inr (.inl e)
  ·exact .inr (.inr ⟨m,y,(a i).2,e⟩)
theorem yK [Kn] (h:bQ E pp pb mb c w q vr S recs vs l) (n:Nat) (y:l[n]? =some (some x)):
  Calls Tryz.prog 34 #[.pointer (some ⟨pp,0,none⟩),.int .i64 (n:Int)] w fun e w'=>e= .returned (.int .i64 0)∧bQ E pp pb mb c w' q vr S recs vs (l.set n none)∧(∀k,ee w' pb mb q vr S vs (l.set n none) k→ee w pb mb q vr S vs l k)∧aH (ee w pb mb q vr S vs l) w w':=by
 obtain ⟨d,_,j⟩:=h.clt y;have p:(l.map fC).length≤100:=by rw [List.length_map];exact h.len
 have s:=Lib.hid (uo h.post n d p _ j);have b:=h.post.cell10;obtain ⟨g,t,u,f,i,a⟩:=h.post.at d;have z:w.cell? ⟨g,n,none⟩=some (.pointer (some ⟨x.sb,0,none⟩)):=by rw [Lib.cell_of_heap i,a,j]
 have A:=Lib.frozen_of_heap i n;have v:(n:Int) < ((l.map fC).length:Int):=by omega
 have r:=Lib.hid (h.drop f d);rw [f] at b;obtain ⟨m,o⟩:∃m,(l.map fC).length=m:=⟨_,rfl⟩;rw [o] at b v p;clear h j f i a o d;go_enter Tryz.func34,Tryz.ntmps34;go_wp2_with fail
 refine s.out.mono ?_;rintro e w' ⟨rfl,rfl⟩;go_wp2_with fail
 go_ret;exact ⟨rfl,r.out⟩
def Kq [Kn] (E:Nat→Prop) (pp pb mb:Nat) (c:bX) (w:World) (q:Nat→Nat) (vr:Value) (S:bp) (vs:Value) (l:List (Option eH)) (n sb ch:Nat) (s':bG) (S':bp) (recs':List UInt8) (w':World):Prop:=
 ∃q' vr' A' vw',bQ E pp pb mb c w' q' vr' S' recs' vs (l.set n (if s'.over then none else some ⟨sb,ch,A',vw',s'⟩))∧(∀k,ee w' pb mb q' vr' S' vs (l.set n (if s'.over then none else some ⟨sb,ch,A',vw',s'⟩)) k→ee w pb mb q vr S vs l k∨w.heap.size≤k)∧aH (ee w pb mb q vr S vs l) w w'
theorem FK [Kn] (h:bQ E pp pb mb c w q vr S recs vs l) (n:Nat) (g:l[n]? =some (some x)) (f:ij c=true) (a:List UInt8) (p:a.length≤1048576):
  Calls Tryz.prog 14 #[.pointer (some ⟨pp,0,none⟩),.int .i64 (n:Int),.string (bs a)] w fun e w'=>e= .returned (.tuple #[.string (bs (cL c (x.s,S,recs,[]) a).2.2.2),.int .i64 0])∧Kq E pp pb mb c w q vr S vs l n x.sb x.ch (cL c (x.s,S,recs,[]) a).1 (cL c (x.s,S,recs,[]) a).2.1 (cL c (x.s,S,recs,[]) a).2.2.1 w':=by
 obtain ⟨o,_,v⟩:=h.clt g;have D:(l.map fC).length≤100:=by rw [List.length_map];exact h.len
 have t:=(h.ok n x g).inv;have d:=(qO f a (x.s,S,recs,[]) t).1;refine (Bz (h.one g) t n o D v a p).mono ?_;rintro e F ⟨rfl,m,A,k,b,j,r,z⟩;obtain ⟨y,C⟩:∃y,cL c (x.s,S,recs,[]) a=y:=⟨_,rfl⟩;rw [C] at j r d ⊢;refine ⟨rfl,A,k,m,b,?_⟩
 cases u:y.1.over with
 | true=>
  rw [u] at j;exact h.heard g d (.inr rfl) j r z
 | false=>
  rw [u] at j;refine h.heard g d (.inl rfl) ?_ r z
  have e:(l.map fC).set n (fC (some ⟨x.sb,x.ch,m,b,y.1⟩))=l.map fC:=by
   apply List.ext_getElem?;intro i
   by_cases s:n=i
   ·subst s;rw [List.getElem?_set_self o,List.getElem?_eq_getElem o,v];rfl
   ·rw [List.getElem?_set_ne s]
  show gY E pp pb mb c F A k y.2.1 y.2.2.1 vs ((l.map fC).set n (fC (some ⟨x.sb,x.ch,m,b,y.1⟩))) x.sb x.ch m b y.1;rw [e];exact j
theorem nC {l:List (Option eH)} {v:Option eH} {n:Nat} {y:eH} (h:(l++[v])[n]? =some (some y)):(n=l.length∧v=some y)∨(n < l.length∧l[n]? =some (some y)):=by
 by_cases a:n < l.length
 ·rw [List.getElem?_append_left a] at h;exact .inr ⟨a,h⟩
 ·rw [List.getElem?_append_right (by omega)] at h
  by_cases e:n - l.length=0
  ·rw [e] at h;exact .inl ⟨by omega,by injection h⟩
  ·rw [List.getElem?_eq_none (by simp;omega)] at h
   cases h
def Kp [Kn] (E:Nat→Prop) (pp pb mb:Nat) (c:bX) (w:World) (q:Nat→Nat) (vr:Value) (S:bp) (recs:List UInt8) (vs:Value) (l:List (Option eH)) (addr:Int) (w':World):Prop:=
 ∃vs' sb ch A,bQ E pp pb mb c w' q vr S recs vs' (l++[some ⟨sb,ch,A,.slice none 0 0,dI c addr⟩])∧(∀k,ee w' pb mb q vr S vs' (l++[some ⟨sb,ch,A,.slice none 0 0,dI c addr⟩]) k→ee w pb mb q vr S vs l k∨w.heap.size≤k)∧aH (fun k=>k=pp∨ee w pb mb q vr S vs l k) w w'
theorem EI [Kn] (h:bQ E pp pb mb c w q vr S recs vs l) (a:Int) (M:0≤a) (N:a≤4294967295) (O:l.length < 100):
  Calls Tryz.prog 13 #[.pointer (some ⟨pp,0,none⟩),.int .i64 a] w fun e w'=>e= .returned (.tuple #[.int .i64 (l.length:Int),.string (bs (mX c)),.int .i64 0])∧Kp E pp pb mb c w q vr S recs vs l a w':=by
 have j:(l.map fC).length=l.length:=List.length_map ..;refine (An h.post a M N (by rw [j];exact O)).mono ?_;rintro e T ⟨rfl,sb,r,C,g,P,Q,F,G,H⟩;rw [j];refine ⟨rfl,C,sb,r,fun k=>k=sb∨k=r,?_⟩
 have A:∀(m:Nat) (y:eH),l[m]? =some (some y)→∀k,y.own k→¬(k=pp∨vs.ownBlock=some k):=fun m y d k e x=>by
  have o:=h.ok m y d
  rcases x with x | x
  ·exact o.fe k e (by rw [x];exact h.post.epp)
  ·exact o.fs k e x
 have b:∀k,(eH.mk sb r (fun k=>k=sb∨k=r) (.slice none 0 0) (dI c a)).own k→w.heap.size≤k:=fun k e=>by
  rcases e with (e | e) | e
  ·rw [e];exact P
  ·rw [e];exact Q
  ·cases e
 have R:gM c (dI c a) S recs:=⟨(fun t e=>by cases e),h.keep.1,h.keep.2.1,h.keep.2.2,by show ([]:List UInt8).length≤102;decide⟩
 refine ⟨⟨by rw [List.map_append];exact g.post,fun m y d=>?_,fun I J K L n g1 g2 k s u=>?_,by rw [List.length_append];simp only [List.length_cons,List.length_nil];omega,h.keep⟩,fun k e=>?_,H.mono (fun k _ e=>e.imp id (fun e=> .inr (.inl e)))⟩
 ·rcases nC d with ⟨_,e⟩ | ⟨_,d⟩
  ·injection e with e;subst e;exact ⟨g.ses,g.wrow,R,fun k e y=>e.elim (fun e=>g.ea k y e) (fun e=>(g.wd k e).1 y),fun k e y=>e.elim (fun e=>g.ab k e y) (fun e=>(g.wd k e).2.2 y),fun k e y=>e.elim (fun e=>(g.sa k y).1 e) (fun e=>(g.sa k y).2 e),fun k e=>(g.wd k e).2.1⟩
  ·have o:=h.ok m y d;have i:=o.chg H (A m y d) G;exact ⟨i.ses,i.row,i.inv,i.fe,i.fb,fun k e x=>(F k x).elim (o.fs k e) (fun x=>by have:=o.lt e;omega),i.fw⟩
 ·rcases nC g1 with ⟨D,v⟩ | ⟨D,g1⟩
  ·rcases nC g2 with ⟨p,_⟩ | ⟨p,g2⟩
   ·exact n (D.trans p.symm)
   ·injection v with v;subst v;have:=(h.ok J L g2).lt u;have:=b k s;omega
  ·rcases nC g2 with ⟨p,z⟩ | ⟨p,g2⟩
   ·injection z with z;subst z;have:=(h.ok I K g1).lt s;have:=b k u;omega
   ·exact h.apart I J K L n g1 g2 k s u
 ·rcases e with e | e | ⟨m,y,d,e⟩
  ·exact .inl (.inl (G k e))
  ·exact (F k e).imp (fun e=> .inr (.inl e)) id
  ·rcases nC d with ⟨_,f⟩ | ⟨_,d⟩
   ·injection f with f;subst f;exact .inr (b k e)
   ·exact .inl (.inr (.inr ⟨m,y,d,e⟩))
end
theorem mN {a pb mb:Nat} {q:Nat→Nat} {vr:Value} {S:bp} {w:World} (h:bh a w pb mb q vr S):Calls Tryz.prog 49 #[.pointer (some ⟨pb,0,none⟩)] w fun e b=>e= .returned (.int .i64 (S.time:Int))∧w=b:=by
 have d:w.cell? ⟨pb,1,none⟩=some (.int .i64 S.time):=by rw [Lib.cell_of_heap h.bag];rfl
 clear h;go_enter Tryz.func49,Tryz.ntmps49;go_wp2_with fail
 go_ret;exact ⟨rfl,rfl⟩
section
variable {E:Nat→Prop} {pp pb mb:Nat} {c:bX} {w:World} {q:Nat→Nat} {vr:Value} {S:bp} {recs:List UInt8} {vs:Value} {l:List (Option eH)}
def Km [K:Kn] (E:Nat→Prop) (pp pb mb:Nat) (c:bX) (w:World) (q:Nat→Nat) (vr:Value) (S:bp) (vs:Value) (l:List (Option eH)) (y:bp×List UInt8) (w':World):Prop:=
 ∃q' vr',bQ E pp pb mb c w' q' vr' y.1 y.2 vs l∧(∀k,ee w' pb mb q' vr' y.1 vs l k→ee w pb mb q vr S vs l k∨w.heap.size≤k)∧aH (ee w pb mb q vr S vs l) w w'
theorem J6 [K:Kn] (h:bQ E pp pb mb c w q vr S recs vs l) (T:Nat) (p:S.time≤T∧T≤1000000000) (I:K.tk= .pointer none):
  Calls Tryz.prog 23 #[.pointer (some ⟨pp,0,none⟩),.int .i64 (T:Int)] w fun e P=>e= .returned (.int .i64 0)∧Km E pp pb mb c w q vr S vs l (dw c.life (⟨S.items,T⟩,recs) S.live) P:=by
 have G:=h.post.cell9;have o:=h.post.cell11;rw [I] at o;have C:=Lib.hid (mN h.post.bag.inn);have V:¬(T:Int) < (S.time:Int):=by omega
 have W:¬(1000000000:Int) < (T:Int):=by omega
 obtain ⟨X,Z,vU,vW,B,O⟩:=h.post.set;have R:w.drew.cell? ⟨pp,7,none⟩=some (.int .i64 c.life):=B.cell 7 (by decide);have U:w.drew.cell? ⟨pp,9,none⟩=some (.pointer (some ⟨pb,0,none⟩)):=G;obtain ⟨m,r⟩:=h.post.glo.len;have g:=eI r;have u:E 0:=h.post.egl _ (.inl rfl);have j:Below w.heap.size w w.drew:=(Below.refl _ _).drew;have f:=Lib.hid (II pb mb q vr S recs T c.life m w.drew (h.post.bag.below j) h.sok p.2 ((j.cell g).trans r) (fun e=>h.post.eb _ u (e.imp (cR h.post.bag.inn j) id)));have a:=lB (x:=((⟨S.items,T⟩:bp),recs)) ⟨h.sok.ok.time T,h.sok.led,p.2⟩ c.life (l:=S.live) (fun i H=>H) (gJ S) S.live.length (Nat.le_refl _);rw [List.take_length] at a;have d:=Lib.hid a.1;have b:=Lib.hid h;obtain ⟨Y,t⟩:∃Y,dw c.life (⟨S.items,T⟩,recs) S.live=Y:=⟨_,rfl⟩;rw [t] at f d ⊢;clear h B O r g u j a t p;go_enter Tryz.func23,Tryz.ntmps23;go_wp2_with (first | (go_at_call 49;refine C.out.mono ?_;rintro e Q ⟨rfl,rfl⟩) | fail)
 go_region_law (first
  | (go_simp;go_at_call 50;refine f.out.mono ?_;rintro e Q ⟨rfl,v⟩;have D:=Lib.hid (gn.below b.out.post.bag ((Below.refl w.heap.size w).drew) v);clear v;dsimp only))
 all_goals
  go_wp2_with fail
  go_ret;obtain ⟨N,s,F,A,J⟩:=D.out;obtain ⟨L,M⟩:=bQ.bagged (D':=K.D0) (n':=K.n0) b.out F A (fun k e x=>b.out.post.eb k e x) (fun k e x=>(b.out.post.sd k e).2 x) (fun n x e k y z=>(b.out.ok n x e).fb k y z) J d.out;exact ⟨rfl,N,s,L,M,A.mono (fun k _ e=> .inl e)⟩
end
open Go.ChangeMaps (setBlock)
def Gi (S:bp) (D:Nat→Int×Int) (w:World) (e:Ending) (w':World):Prop:=
 Below w.heap.size w w'∧((∃i∈S.live,(D i).1≤S.time∧∃a c,e= .returned (.tuple #[.agg #[.int .i64 ((i:Int)+1),.string (bs (S.mailOf i).frm),.slice a (S.stayOf i).length c,.string (bs (S.mailOf i).body)],.bool true])∧w'.ownsRow w.heap.size 162 2 (.slice a (S.stayOf i).length c) (S.stayOf i).length (aR (S.stayOf i)))∨
  ((∀i∈S.live,S.time < (D i).1)∧e= .returned (.tuple #[.agg #[.int .i64 0,.string ⟨#[]⟩,.slice none 0 0,.string ⟨#[]⟩],.bool false])))
theorem Ep {w W:World} {a b c d:Value} {sb:Nat} (h:W.heap[sb]? =some (.cells #[.int .i64 0,.string ⟨#[]⟩,.slice none 0 0,.string ⟨#[]⟩] 104 (0,0))) (f:Below w.heap.size w W) (g:w.heap.size≤sb):
  ((((W.setCell ⟨sb,0,none⟩ a).setCell ⟨sb,1,none⟩ b).setCell ⟨sb,2,none⟩ c).setCell ⟨sb,3,none⟩ d).heap[sb]? =some (.cells #[a,b,c,d] 104 (0,0))∧Below w.heap.size w ((((W.setCell ⟨sb,0,none⟩ a).setCell ⟨sb,1,none⟩ b).setCell ⟨sb,2,none⟩ c).setCell ⟨sb,3,none⟩ d)∧aL sb W ((((W.setCell ⟨sb,0,none⟩ a).setCell ⟨sb,1,none⟩ b).setCell ⟨sb,2,none⟩ c).setCell ⟨sb,3,none⟩ d):=by
 have e:aL sb W ((((W.setCell ⟨sb,0,none⟩ a).setCell ⟨sb,1,none⟩ b).setCell ⟨sb,2,none⟩ c).setCell ⟨sb,3,none⟩ d):=((((aL.refl _ _).setCell _).setCell _).setCell _).setCell _;exact ⟨heap_setCell_same _ _ 3 _ _ _ (heap_setCell_same _ _ 2 _ _ _ (heap_setCell_same _ _ 1 _ _ _ (heap_setCell_same _ _ 0 _ _ _ h))),f.trans (e.below g),e⟩
theorem Bb (Y pb o:Nat) (q:Nat→Nat) (vr:Value) (S:bp) (D:Nat→Int×Int) (w:World) (h:bh Y w pb o q vr S) (hd:jk w q S.live D) (e2:S.Ok) (hn:S.items.length≤1048576):
  Calls Tryz.prog 47 #[.pointer (some ⟨pb,0,none⟩)] w (Gi S D w):=by
 have h5:=uG S;obtain ⟨H,F⟩:∃H:World,w.alloc (.cells #[.int .i64 0,.string ⟨#[]⟩,.slice none 0 0,.string ⟨#[]⟩] 104)=H:=⟨_,rfl⟩;have Ba:Below w.heap.size w H:=by rw [←F];exact (Below.refl _ _).alloc (Nat.le_refl _) _
 have za:H.heap.size=w.heap.size+1:=by rw [←F];simp
 have ha:=h.keep Ba;have e4:=run_range_map (P:=Tryz.prog) H 115 3 122 o (cO q S.live) S.items.length Tryz.underlying115 ha.map;have c3:H.cell? ⟨pb,3,none⟩=some (.map (some o)):=by rw [Lib.cell_of_heap ha.bag];rfl
 have D0:D5 w (H.alloc (.mapIter (some o) S.items.length #[] S.items.length)) o q S D #[] (.slice none 0 0) []:=by
  have hb:Below H.heap.size H (H.alloc (.mapIter (some o) S.items.length #[] S.items.length)):=(Below.refl _ _).alloc (Nat.le_refl _) _;refine ⟨Ba.trans (hb.mono (by omega)),by simp;omega,ae hb (by rw [←F];exact heap_alloc_new w _),?_,World.ownsRow_nil _ _ _ _,(fun k e=>by cases e),(fun i m=>by cases m),(fun i _ hs=>by simp at hs),?_⟩
  ·rw [←za];exact heap_alloc_new H _
  ·have:(Go.leftOf (cO q S.live) #[]).size≤(cO q S.live).size:=Array.size_filter_le;have e:(cO q S.live).size=S.live.length:=by simp [cO]
   simp only [List.length_nil];omega
 have a6:=Lib.hid D0;have g0:=Lib.hid F;have HH:=Lib.hid h;have f1:=Lib.hid hd;have f5:=Lib.hid e2;rw [←F] at e4 c3;clear h D0 ha hd e2 Ba F;go_enter Tryz.func47,Tryz.ntmps47;go_wp2_with fail
 rw [g0.out];obtain ⟨W0,d6⟩:∃W0:World,H.alloc (.mapIter (some o) S.items.length #[] S.items.length)=W0:=⟨_,rfl⟩;rw [d6] at a6 ⊢;clear d6 e4 c3;go_loopw [4,5,6] (fun v _ _ w'=>∃(f:Array Nat) (L:List Nat),Hid (D5 w w' o q S D f v L)) (fun _ _ _ w'=>(Go.leftOf (cO q S.live) (w'.iterSeen (w.heap.size+1))).size)
 case atStart=>exact ⟨#[],[],a6⟩
 case round=>
  clear a6;obtain ⟨f,L,l⟩:=hrel;obtain ⟨av,cv,ev⟩:=aE (aF l.out.row);subst ev;have Hr:=HH.out.keep l.out.below
  have h2:=run_next_at (P:=Tryz.prog) wr 0 (w.heap.size+1) o S.items.length S.items.length f (cO q S.live) S.items.length l.out.it Hr.map (fun x hx=>by
   rw [cT] at hx;obtain ⟨i,m,rfl⟩:=List.mem_map.1 hx
   exact bq m) (Nat.le_refl _)
  rcases h2 with ⟨h0,N⟩ | ⟨e,he,w1,G,N⟩
  ·have s:∀i∈S.live,f.contains i=true:=fun i m=>by
    cases hs:f.contains i with
    | true=>rfl
    | false=>
     have hm:nM q i∈(Go.leftOf (cO q S.live) f).toList:=by
      unfold Go.leftOf;rw [Array.toList_filter,List.mem_filter,cT];refine ⟨List.mem_map.2 ⟨i,m,rfl⟩,?_⟩;show (!f.contains i)=true;rw [hs];rfl
     have e0:(Go.leftOf (cO q S.live) f).toList=[]:=List.eq_nil_of_length_eq_zero (by rw [Array.length_toList];exact h0);rw [e0] at hm
     cases hm
   have m0:∀W:World,Below wr.heap.size wr W→W.heap[w.heap.size]? =some (.cells #[.int .i64 0,.string ⟨#[]⟩,.slice none 0 0,.string ⟨#[]⟩] 104 (0,0)):=fun W hb=>ae hb l.out.out;have HM:=Lib.hid m0
   by_cases hL:L=[]
   ·have g5:L.length=0:=by rw [hL];rfl
    have Q:=m0 wr (Below.refl _ _);have a0:wr.cell? ⟨w.heap.size,0,none⟩=some (.int .i64 0):=by rw [Lib.cell_of_heap Q];rfl
    have a1:wr.cell? ⟨w.heap.size,1,none⟩=some (.string ⟨#[]⟩):=by rw [Lib.cell_of_heap Q];rfl
    have a2:wr.cell? ⟨w.heap.size,2,none⟩=some (.slice none 0 0):=by rw [Lib.cell_of_heap Q];rfl
    have a3:wr.cell? ⟨w.heap.size,3,none⟩=some (.string ⟨#[]⟩):=by rw [Lib.cell_of_heap Q];rfl
    have b0:=Lib.frozen_of_heap Q 0;have b1:=Lib.frozen_of_heap Q 1;have b2:=Lib.frozen_of_heap Q 2;have b3:=Lib.frozen_of_heap Q 3
    have B:Hid (∀i∈S.live,S.time < (D i).1):=Lib.hid (fun i m=>by
     by_cases U:(D i).1≤S.time
     ·have:=l.out.all i m (s i m) U;rw [hL] at this;cases this
     ·omega)
    have HE:=Lib.hid (Ep (w:=w) (a:= .int .i64 0) (b:= .string ⟨#[]⟩) (c:= .slice none 0 0) (d:= .string ⟨#[]⟩) Q l.out.below (Nat.le_refl _));rw [g5];clear m0 Q Hr s h0;go_wp2_with fail
    obtain ⟨z,h3⟩:∃z:World,((((wr.setCell ⟨w.heap.size,0,none⟩ (.int .i64 0)).setCell ⟨w.heap.size,1,none⟩ (.string ⟨#[]⟩)).setCell ⟨w.heap.size,2,none⟩ (.slice none 0 0)).setCell ⟨w.heap.size,3,none⟩ (.string ⟨#[]⟩))=z:=⟨_,rfl⟩;rw [h3] at HE ⊢;obtain ⟨X9,B9,_⟩:=HE.out;have c0:z.cell? ⟨w.heap.size,0,none⟩=some (.int .i64 0):=by rw [Lib.cell_of_heap X9];rfl
    have c1:z.cell? ⟨w.heap.size,1,none⟩=some (.string ⟨#[]⟩):=by rw [Lib.cell_of_heap X9];rfl
    have c2:z.cell? ⟨w.heap.size,2,none⟩=some (.slice none 0 0):=by rw [Lib.cell_of_heap X9];rfl
    have c3:z.cell? ⟨w.heap.size,3,none⟩=some (.string ⟨#[]⟩):=by rw [Lib.cell_of_heap X9];rfl
    refine bodyPost_ret (v:= .tuple #[.agg #[.int .i64 0,.string ⟨#[]⟩,.slice none 0 0,.string ⟨#[]⟩],.bool false]) (by simp [results,Tryz.results47,go_sem,c0,c1,c2,c3]) rfl ?_;exact ⟨B9,.inr ⟨B.out,rfl⟩⟩
   ·have g6:1≤L.length:=List.length_pos_iff.2 hL;have g7:L.length≤1048576:=by have:=l.out.cnt;omega
    have c7:=Lib.hid (Bi Y pb o q vr (.slice av L.length cv) S L wr Hr hn (fun i m=>(l.out.mem i m).1) g6 g7 (aF l.out.row));have h9:((L.length:Int) == 0)=false:=by rw [beq_eq_false_iff_ne];omega
    have b7:=Lib.hid l.out.below;have c6:=Lib.hid l.out.mem;clear m0 Hr s h0 l;go_wp2_with fail
    refine c7.out.mono ?_;rintro e y ⟨i,g9,rfl,b4⟩;obtain ⟨m,g8⟩:=c6.out i g9;have V:Below w.heap.size w y:=b7.out.trans (b4.mono b7.out.size);have X:=HH.out.keep V;have h8:y.cell? ⟨pb,3,none⟩=some (.map (some o)):=by rw [Lib.cell_of_heap X.bag];rfl
    have i0:(Instr.lookup 115 (.map (some o)) (.int .i64 ((i:Int)+1)) false).run Tryz.prog y= .ok (.pointer (some ⟨q i,0,none⟩)) y:=
     ig (t:=115) (e:=122) fU Tryz.underlying115 X.map (fun j hj=>by have:=bq hj;omega) i (by have:=bq m;omega) m false
    obtain ⟨_,vi,xi,bi,ri⟩:=X.mail i m;have i2:=dk f5.out i;obtain ⟨ai,ci,ei⟩:=aE (aF ri);subst ei;have b8:=Lib.hid (Cs (S.stayOf i) _ y.drew (aF ri) (by omega));have p1:y.drew.cell? ⟨q i,1,none⟩=some (.string (bs (S.mailOf i).frm)):=by show y.cell? _=_;rw [Lib.cell_of_heap bi];rfl
    have p2:y.drew.cell? ⟨q i,2,none⟩=some (.slice ai (S.stayOf i).length ci):=by show y.cell? _=_;rw [Lib.cell_of_heap bi];rfl
    have p3:y.drew.cell? ⟨q i,3,none⟩=some (.string (bs (S.mailOf i).body)):=by show y.cell? _=_;rw [Lib.cell_of_heap bi];rfl
    have h6:=Lib.hid bi;have e9:=Lib.hid V;have J:w.heap.size≤y.heap.size:=V.size;have g4:=Lib.hid (HM.out y b4);clear V X bi ri b4 c7;obtain ⟨fr,d3⟩:∃fr,(S.mailOf i).frm=fr:=⟨_,rfl⟩;obtain ⟨bo,d2⟩:∃bo,(S.mailOf i).body=bo:=⟨_,rfl⟩;obtain ⟨ln,a8⟩:∃ln,(S.stayOf i).length=ln:=⟨_,rfl⟩;rw [d3] at p1;rw [d2] at p3;rw [a8] at p2 b8;go_wp2_with fail
    go_region_law (first
     | (go_simp;go_at_call 82;refine b8.out.mono ?_;rintro e z ⟨a9,c9,rfl,e1,K⟩;have k1:z.cell? ⟨q i,1,none⟩=some (.string (bs fr)):=(K.cell (eI p1)).trans p1;have k3:z.cell? ⟨q i,3,none⟩=some (.string (bs bo)):=(K.cell (eI p3)).trans p3;have R:=ae K g4.out;have a0:z.cell? ⟨w.heap.size,0,none⟩=some (.int .i64 0):=(by rw [Lib.cell_of_heap R];rfl);have a1:z.cell? ⟨w.heap.size,1,none⟩=some (.string ⟨#[]⟩):=(by rw [Lib.cell_of_heap R];rfl);have a2:z.cell? ⟨w.heap.size,2,none⟩=some (.slice none 0 0):=(by rw [Lib.cell_of_heap R];rfl);have a3:z.cell? ⟨w.heap.size,3,none⟩=some (.string ⟨#[]⟩):=(by rw [Lib.cell_of_heap R];rfl);have b0:=Lib.frozen_of_heap R 0;have b1:=Lib.frozen_of_heap R 1;have b2:=Lib.frozen_of_heap R 2;have b3:=Lib.frozen_of_heap R 3;have f4:=Lib.hid e1;have d0:=Lib.hid R;have f0:Hid (Below w.heap.size w z):=Lib.hid ((e9.out.trans ((Below.refl y.heap.size y).drew.mono J)).trans (K.mono J));clear e1 K R;dsimp only))
    all_goals
     obtain ⟨u,O⟩:∃u:World,((((z.setCell ⟨w.heap.size,0,none⟩ (.int .i64 ((i:Int)+1))).setCell ⟨w.heap.size,1,none⟩ (.string (bs fr))).setCell ⟨w.heap.size,2,none⟩ (.slice a9 ln c9)).setCell ⟨w.heap.size,3,none⟩ (.string (bs bo)))=u:=⟨_,rfl⟩;rw [O];obtain ⟨E,a5,a7⟩:=Ep (w:=w) (a:= .int .i64 ((i:Int)+1)) (b:= .string (bs fr)) (c:= .slice a9 ln c9) (d:= .string (bs bo)) d0.out f0.out (Nat.le_refl _);rw [O] at E a5 a7;have c0:u.cell? ⟨w.heap.size,0,none⟩=some (.int .i64 ((i:Int)+1)):=by rw [Lib.cell_of_heap E];rfl
     have c1:u.cell? ⟨w.heap.size,1,none⟩=some (.string (bs fr)):=by rw [Lib.cell_of_heap E];rfl
     have c2:u.cell? ⟨w.heap.size,2,none⟩=some (.slice a9 ln c9):=by rw [Lib.cell_of_heap E];rfl
     have c3:u.cell? ⟨w.heap.size,3,none⟩=some (.string (bs bo)):=by rw [Lib.cell_of_heap E];rfl
     have c8:Hid (u.ownsRow w.heap.size 162 2 (.slice a9 ln c9) ln (aR (S.stayOf i))):=Lib.hid ((ep f4.out fun g d1 e _=>aP a7 e fun e'=>by rw [e',d0.out] at e;simp at e).mono J);have b6:=Lib.hid a5;clear O E a5 a7 a0 a1 a2 a3 b0 b1 b2 b3 k1 k3 p1 p2 p3;go_wp2_with fail
     refine bodyPost_ret (v:= .tuple #[.agg #[.int .i64 ((i:Int)+1),.string (bs fr),.slice a9 ln c9,.string (bs bo)],.bool true]) (by simp [results,Tryz.results47,go_sem,c0,c1,c2,c3]) rfl ?_;refine ⟨b6.out,.inl ⟨i,m,g8,a9,c9,?_,?_⟩⟩
     ·rw [d3,d2,a8]
     ·rw [a8];exact c8.out
  ·obtain ⟨i,m,rfl⟩:=xQ he;have M:=Lib.hid (nT he);have h4:=l.out.big;have T:w1.heap=wr.heap:=by rcases G with e | e <;> rw [e];rfl
   have B1:Below w.heap.size w w1:=by rcases G with e | e <;> rw [e];exact l.out.below;exact l.out.below.drew
   obtain ⟨p,r⟩:∃p:World,setBlock w1 (w.heap.size+1) (.mapIter (some o) S.items.length (f.push (nM q i).born) S.items.length)=p:=⟨_,rfl⟩;have S1:aL (w.heap.size+1) w1 p:=by rw [←r];exact ke _ _ _
   have V:Below w.heap.size w p:=B1.trans (S1.below (by omega));have I2:p.heap[w.heap.size+1]? =some (.mapIter (some o) S.items.length (f.push (nM q i).born) S.items.length):=by rw [←r];exact s9 (by rw [T];omega) _
   have X:=HH.out.keep V;rw [r] at N;have d8:=run_entry_at (P:=Tryz.prog) p (w.heap.size+1) o S.items.length f (cO q S.live) S.items.length (nM q i) I2 X.map (by rw [cT];exact List.mem_map.2 ⟨i,m,rfl⟩) (tR (gJ S));have c1:p.cell? ⟨pb,1,none⟩=some (.int .i64 S.time):=by rw [Lib.cell_of_heap X.bag];rfl
   obtain ⟨C,hC,d4,_⟩:=f1.out i m;have c4:p.cell? ⟨q i,4,none⟩=some (.int .i64 (D i).1):=by rw [Lib.cell_of_heap (ae V hC),d4]
   have a4:(nM q i).val= .pointer (some ⟨q i,0,none⟩):=rfl;have Z:(nM q i).key= .int .i64 ((i:Int)+1):=rfl;have b5:(nM q i).born=i:=rfl;rw [a4,Z] at N d8;have f2:=Lib.hid he;have f8:=Lib.hid G;have f9:=Lib.hid r;have f7:=Lib.hid S1;obtain ⟨ii,d9,e5,e6,e7⟩:=info_parts qP;have i1:L.length≤1048576:=by have:=l.out.cnt;omega
   have A:Hid ((D i).1≤S.time→∀n,∃g cp W3,(Builtin.append_ #[28,28] 28 #[.slice av L.length cv,.slice (some ⟨p.heap.size,0,none⟩) 1 1]).run Tryz.prog ((p.drewN n).alloc (.cells #[.int .i64 ((i:Int)+1)] 3))= .ok (.slice (some ⟨g,0,none⟩) (L.length+1) cp) W3∧D5 w W3 o q S D (f.push i) (.slice (some ⟨g,0,none⟩) (L.length+1) cp) (L++[i])):=Lib.hid (fun d7 n=>by
    have r1:w1.ownsRow 0 3 1 (.slice av L.length cv) L.length ((iK L).map fun (i:Int)=> .int .i64 i):=ep l.out.row fun g d1 e _=>by rw [T];exact e
    have r2:(p.drewN n).ownsRow 0 3 1 (.slice av L.length cv) L.length ((iK L).map fun (i:Int)=> .int .i64 i):=ep r1 fun g d1 e _=>aP S1 e fun e'=>by
     have:=l.out.it;rw [←T,←e',e] at this;simp at this
    obtain ⟨g,cp,W3,k1,k2,k3,k4⟩:=pv (P:=Tryz.prog) Tryz.underlying28 d9 e5 e6 e7 rfl (p.drewN n) ((p.drewN n).alloc (.cells #[.int .i64 ((i:Int)+1)] 3)) (.slice av L.length cv) (.int .i64 ((i:Int)+1)) L.length _ r2 rfl ((Below.refl _ _).alloc (Nat.le_refl _) _) (heap_alloc_new _ _) (by unfold maxLen;omega) (by omega);refine ⟨g,cp,W3,k1,l.out.plus (v':= .slice (some ⟨g,0,none⟩) (L.length+1) cp) m he d7 G (ke _ _ _) (W':=p.drewN n) (by rw [←r];exact bA _ _ _) k3 k2 (fun g' e=>?_)⟩;have e:g=g':=by simpa [Value.ownBlock] using e
    rw [←e];exact k4)
   have B:Hid (¬(D i).1≤S.time→∀n,D5 w (p.drewN n) o q S D (f.push i) (.slice av L.length cv) L):=Lib.hid (fun h1 n=>by
    have l1:D5 w w1 o q S D f (.slice av L.length cv) L:=by
     rcases G with e | e <;> rw [e]
     ·exact l.out
     ·exact l.out.keep ((Below.refl _ _).drew)
    have l2:=l1.step he h1;rw [show setBlock w1 (w.heap.size+1) (.mapIter (some o) S.items.length (f.push i) S.items.length)=p from r] at l2
    exact l2.keep (bA _ _ _))
   obtain ⟨d,ed⟩:∃d,(D i).1=d:=⟨_,rfl⟩;have h7:=Lib.hid ed;rw [ed] at c4;rw [ed] at A B;have c5:=Lib.hid l.out.it;clear a4 Z r S1 B1 V I2 X hC d4 G he T ed Hr l d9 e5 e6 e7 f2 f8 f9 f7 b5
   by_cases U:d≤(S.time:Int)
   ·have e8:=Lib.hid (A.out U);clear A B;go_wp2_with fail
    go_quiet (fail)
    obtain ⟨g,cp,W3,e3,d5⟩:=e8.out nq;have f6:=Lib.hid e3;have I:=Lib.hid d5;clear e3 d5
    go_wp2_with (first
     | (at_builtin;refine bB rfl _ _ 28 rfl _ _ (.slice (some ⟨g,0,none⟩) (L.length+1) cp) W3 rfl rfl f6.out ?_)
     | fail)
    exact ⟨⟨_,_,I⟩,by rw [ja I.out.it,ja c5.out];exact M.out⟩
   ·have f3:=Lib.hid (B.out U);clear A B;go_wp2_with fail
    go_quiet (fail)
    have I:=Lib.hid (f3.out nq);go_wp2_with fail
    exact ⟨⟨_,_,I⟩,by rw [ja I.out.it,ja c5.out];exact M.out⟩
structure j0 where
 addr:Int
 known:Bool
 inside:Bool
 closed:Bool
 tos:List (List UInt8)
def dd (out:List UInt8):List UInt8:=if 4≤out.length then out.take 3 else []
def mf:List UInt8:=[50,53,48]
def vH:List UInt8:=[51,53,52]
def vG:List UInt8:=[50,51,53]
def Jx:List UInt8:=[50,50,49]
def uK (x:j0) (t:List UInt8):Bool:=xJ t || decide (x.addr / 256=1) || x.known
def gH (x:j0) (l out:List UInt8):j0:=
 if x.inside=true∧l≠[46] then x
 else if x.inside=true then {x with inside:=false,tos:=[]}
 else if dd out=vH then {x with inside:=true}
 else if dd out=vG∧bu l mg=true then {x with known:=true}
 else if dd out=mf∧bu l gZ=true then {x with tos:=jF x.tos (fV l)}
 else if bu l fT=true then {x with closed:=true}
 else if Me l=true∧dd out=mf then {x with tos:=[]}
 else x
def fL (x:j0) (l out:List UInt8):List aX:=
 if x.inside=true∧l=[46]∧dd out=mf then [⟨kB out,0,[],x.tos,[]⟩] else []
def dp (x:j0) (l out:List UInt8):Bool:=
 if x.inside=true∧l≠[46] then decide (out≠[])
 else if x.inside=true then decide (dd out=mf) && !(x.tos.all (uK x))
 else if dd out=vH then false
 else if dd out=vG∧bu l mg=true then false
 else if dd out=mf∧bu l gZ=true then false
 else if bu l fT=true then decide (dd out≠Jx)
 else false
def JG (s:bG):Bool:=(s.tx.bind (·.body)).isSome
def IL (s:bG):List (List UInt8):=match s.tx with | some t=>t.tos | none=>[]
structure km (x:j0) (s:bG):Prop where
 closed:x.closed=false
 over:s.over=false
 wait:s.wait=[]
 known:x.known=s.known
 inside:x.inside=JG s
 tos:x.tos=IL s
 nets:s.nets=true→x.addr / 256=1
 may:∀t∈x.tos,uK x t=true
 addr:0≤x.addr∧x.addr < 1000
def fj (x:j0):Option bG→Prop
 | none=>x.closed=true
 | some s=>km x s
theorem fj.of {x:j0} {s:bG} (h:km x s):fj x (if s.over then none else some s):=by
 rw [if_neg (by rw [h.over];decide)];exact h
theorem o8:∀(k n a:Nat),n < 10 ^ (k+1)→∃e,(Lib.decDigits n).foldl mH a=a * 10 ^ e+n
 | 0,n,a,h=>by
  have h:n < 10:=by omega
  refine ⟨1,?_⟩;rw [Lib.decDigits,dif_pos h];show mH a (UInt8.ofNat (48+n))=_;unfold mH;have e:(UInt8.ofNat (48+n)).toNat=48+n:=by rw [UInt8.toNat_ofNat'];omega
  rw [e,if_pos (by omega)];omega
 | k+1,n,a,h=>by
  by_cases b:n < 10
  ·refine ⟨1,?_⟩;rw [Lib.decDigits,dif_pos b];show mH a (UInt8.ofNat (48+n))=_;unfold mH;have e:(UInt8.ofNat (48+n)).toNat=48+n:=by rw [UInt8.toNat_ofNat'];omega
   rw [e,if_pos (by omega)];omega
  ·obtain ⟨e,f⟩:=o8 k (n / 10) a (by rw [Nat.pow_succ] at h;omega);refine ⟨e+1,?_⟩;rw [Lib.decDigits,dif_neg b,List.foldl_append,f];show mH (a * 10 ^ e+n / 10) (UInt8.ofNat (48+n % 10))=_;unfold mH;have d:(UInt8.ofNat (48+n % 10)).toNat=48+n % 10:=by rw [UInt8.toNat_ofNat'];omega
   rw [d,if_pos (by omega),Nat.pow_succ,←Nat.mul_assoc];omega
theorem Lu (n:Nat):kB ([50,53,48,32,107,101,112,116,32]++Lib.itoa (n:Int)++[13,10])=n:=by
 have a:Lib.itoa (n:Int)=Lib.decDigits n:=by
  unfold Lib.itoa;rw [if_neg (by omega),Int.toNat_natCast]
 unfold kB;rw [a,List.append_assoc,List.drop_append_of_le_length (by decide),List.foldl_append,List.foldl_append];have b:(([50,53,48,32,107,101,112,116,32]:List UInt8).drop 4).foldl mH 0=0:=by decide
 obtain ⟨k,f⟩:∃k,n < 10 ^ (k+1):=⟨n,Nat.lt_of_lt_of_le (Nat.lt_pow_self (by decide:1 < 10)) (Nat.pow_le_pow_right (by decide) (Nat.le_succ n))⟩;obtain ⟨e,d⟩:=o8 k n 0 f;rw [b,d,Nat.zero_mul,Nat.zero_add];show mH (mH n 13) 10=n;unfold mH;rw [if_neg (by decide),if_neg (by decide)]
theorem pE (a b c e:UInt8) (r:List UInt8):dd (a::b::c::e::r)=[a,b,c]:=by
 unfold dd;rw [if_pos (by simp)];rfl
section
variable {c:bX} {x:j0} {s:bG} {S:bp} {recs l:List UInt8}
theorem qk (e:x.inside=false) {out:List UInt8} (a:dd out≠vH) (b:dd out≠vG) (d:dd out≠mf):gH x l out=(if bu l fT=true then {x with closed:=true} else x)∧fL x l out=[]∧dp x l out=if bu l fT=true then decide (dd out≠Jx) else false:=by
 unfold gH fL dp;simp [e,a,b,d]
theorem iP (b:x.inside=false) {out:List UInt8} (a:dd out=mf):gH x l out=(if bu l gZ=true then {x with tos:=jF x.tos (fV l)} else if bu l fT=true then {x with closed:=true} else if Me l=true then {x with tos:=[]} else x)∧fL x l out=[]∧dp x l out=if bu l gZ=true then false else if bu l fT=true then decide (dd out≠Jx) else false:=by
 have d:mf≠vH:=by decide
 have e:mf≠vG:=by decide
 unfold gH fL dp;simp [b,a,d,e]
theorem BF (b:x.inside=false) {out:List UInt8} (a:dd out=vH):gH x l out={x with inside:=true}∧fL x l out=[]∧dp x l out=false:=by
 unfold gH fL dp;simp [b,a]
theorem BC (d:x.inside=false) {out:List UInt8} (a:dd out=vG) (b:bu l mg=true):gH x l out={x with known:=true}∧fL x l out=[]∧dp x l out=false:=by
 have e:vG≠vH:=by decide
 unfold gH fL dp;simp [d,a,e,b]
theorem Gv (C:tr l) (Z:c.doms=na) (h:km x s) (j:x.inside=false):fj (gH x l (bz c s (bn l false)).2.flatten) (if (bz c s (bn l false)).1.over then none else some (bz c s (bn l false)).1)∧fL x l (bz c s (bn l false)).2.flatten=[]∧dp x l (bz c s (bn l false)).2.flatten=false:=by
 have M:=C.quit;have G:=C.over;have H:=C.overs;have F:=C.auth;have Q:=C.rcpt;have E:=C.addr;have hm:=C.most;obtain ⟨k,W⟩:∃k,bn l false=k:=⟨_,rfl⟩;rw [W] at M G H F Q E hm ⊢
 have r:∀g,dd g≠vH→dd g≠vG→dd g≠mf→k.verb≠2→fj (gH x l g) (if s.over then none else some s)∧fL x l g=[]∧dp x l g=false:=fun g i n D X=>by
  obtain ⟨a,b,e⟩:=qk (l:=l) j i n D;have q0:bu l fT=false:=by rw [M,beq_eq_false_iff_ne];exact X
  rw [a,b,e,q0];exact ⟨fj.of h,rfl,rfl⟩
 have T:dd ni=[53,48,51]:=rfl
 by_cases d:fO s k.verb=false
 ·have e:bz c s k=(s,[ni]):=by unfold bz;rw [if_pos d]
  rw [e];have R:k.verb≠2:=fun e=>by rw [e] at d;cases d
  exact r ([ni]:List (List UInt8)).flatten (by decide) (by decide) (by decide) R
 have hv:k.verb=0∨k.verb=1∨k.verb=2∨k.verb=3∨k.verb=4∨k.verb=5∨k.verb=6∨k.verb=7∨k.verb=8∨k.verb=9∨k.verb=10:=by omega
 have K:k.verb≠2→bu l fT=false:=fun e=>by rw [M,beq_eq_false_iff_ne];exact e
 have L:k.verb≠10→bu l gZ=false:=fun e=>by rw [Q,beq_eq_false_iff_ne];exact e
 rcases hv with v | v | v | v | v | v | v | v | v | v | v
 ·have e:bz c s k=(s,[zm]):=by unfold bz;rw [if_neg d];simp only [v]
  rw [e];exact r ([zm]:List (List UInt8)).flatten (by decide) (by decide) (by decide) (by omega)
 ·have e:bz c s k=(s,[G8]):=by unfold bz;rw [if_neg d];simp only [v]
  rw [e];exact r ([G8]:List (List UInt8)).flatten (by decide) (by decide) (by decide) (by omega)
 ·have e:bz c s k=({s with over:=true},[G7]):=by unfold bz;rw [if_neg d];simp only [v]
  rw [e];obtain ⟨a,b,f⟩:=qk (l:=l) j (out:=([G7]:List (List UInt8)).flatten) (by decide) (by decide) (by decide);have q1:bu l fT=true:=by rw [M,v];rfl
  rw [a,b,f,q1];exact ⟨rfl,rfl,by decide⟩
 ·have e:bz c s k=(s,[jD]):=by unfold bz;rw [if_neg d];simp only [v]
  rw [e];obtain ⟨a,b,f⟩:=iP (l:=l) j (out:=([jD]:List (List UInt8)).flatten) (by decide);have o0:Me l=false:=by rw [←Bool.not_eq_true];intro e;have:=H e;omega
  rw [a,b,f,L (by omega),K (by omega),o0];exact ⟨fj.of h,rfl,rfl⟩
 ·have e:bz c s k=({s with tx:=none},[jD]):=by unfold bz;rw [if_neg d];simp only [v]
  rw [e];obtain ⟨a,b,f⟩:=iP (l:=l) j (out:=([jD]:List (List UInt8)).flatten) (by decide);rw [a,b,f,L (by omega),K (by omega),G (by omega)];exact ⟨fj.of ⟨h.closed,h.over,h.wait,h.known,j,rfl,h.nets,(fun t m=>by cases m),h.addr⟩,rfl,rfl⟩
 ·cases m:s.tx with
  | none=>
   rw [v] at d;unfold fO at d;rw [m] at d;exact absurd rfl d
  | some t=>
   have e:bz c s k=({s with tx:=some {t with body:=some ⟨[],false,false⟩}},[zl]):=by unfold bz;rw [if_neg d];simp only [v,m]
   rw [e];obtain ⟨a,b,f⟩:=BF (l:=l) j (out:=([zl]:List (List UInt8)).flatten) (by decide);rw [a,b,f];exact ⟨fj.of ⟨h.closed,h.over,h.wait,h.known,rfl,by have:=h.tos;unfold IL at this;rw [m] at this;exact this,h.nets,h.may,h.addr⟩,rfl,rfl⟩
 ·have e:bz c s k=({s with greeted:=true,tx:=none},[[50,53,48,32]++cQ c++[13,10]]):=by unfold bz;rw [if_neg d];simp only [v]
  rw [e];obtain ⟨a,b,f⟩:=iP (l:=l) j (out:=([[50,53,48,32]++cQ c++[13,10]]:List (List UInt8)).flatten) (by rw [List.flatten_cons,List.append_assoc,List.append_assoc];exact pE _ _ _ _ _);rw [a,b,f,L (by omega),K (by omega),G (by omega)];exact ⟨fj.of ⟨h.closed,h.over,h.wait,h.known,j,rfl,h.nets,(fun t m=>by cases m),h.addr⟩,rfl,rfl⟩
 ·obtain ⟨q,e⟩:∃q,bz c s k=({s with greeted:=true,tx:=none},([50,53,48,45]++cQ c++[13,10])::q):=by unfold bz;rw [if_neg d];simp only [v];exact ⟨_,rfl⟩
  rw [e];obtain ⟨a,b,f⟩:=iP (l:=l) j (out:=(([50,53,48,45]++cQ c++[13,10])::q:List (List UInt8)).flatten) (by rw [List.flatten_cons,List.append_assoc,List.append_assoc];exact pE _ _ _ _ _);rw [a,b,f,L (by omega),K (by omega),G (by omega)];exact ⟨fj.of ⟨h.closed,h.over,h.wait,h.known,j,rfl,h.nets,(fun t m=>by cases m),h.addr⟩,rfl,rfl⟩
 ·by_cases i:(s.tx.isSome || s.known)=true
  ·have e:bz c s k=(s,[ni]):=by unfold bz;rw [if_neg d];simp only [v];rw [if_pos i]
   rw [e];exact r ([ni]:List (List UInt8)).flatten (by decide) (by decide) (by decide) (by omega)
  ·by_cases n:c.users.any (iV (bs k.shown))=true
   ·have e:bz c s k=({s with known:=true},[Fe]):=by unfold bz;rw [if_neg d];simp only [v];rw [if_neg i,if_pos n]
    rw [e];obtain ⟨a,b,f⟩:=BC (l:=l) j (out:=([Fe]:List (List UInt8)).flatten) (by decide) (by rw [F,v];rfl);rw [a,b,f];exact ⟨fj.of ⟨h.closed,h.over,h.wait,rfl,h.inside,h.tos,h.nets,(fun t _=>by unfold uK;simp),h.addr⟩,rfl,rfl⟩
   ·have e:bz c s k=(s,[G9]):=by unfold bz;rw [if_neg d];simp only [v];rw [if_neg i,if_neg n]
    rw [e];exact r ([G9]:List (List UInt8)).flatten (by decide) (by decide) (by decide) (by omega)
 ·by_cases i:s.tx.isSome=true
  ·have e:bz c s k=(s,[ni]):=by unfold bz;rw [if_neg d];simp only [v];rw [if_pos i]
   rw [e];exact r ([ni]:List (List UInt8)).flatten (by decide) (by decide) (by decide) (by omega)
  ·by_cases n:c.size < (k.size:Int)
   ·have e:bz c s k=(s,[uw]):=by unfold bz;rw [if_neg d];simp only [v];rw [if_neg i,if_pos n]
    rw [e];exact r ([uw]:List (List UInt8)).flatten (by decide) (by decide) (by decide) (by omega)
   ·have e:bz c s k=({s with tx:=some ⟨k.name,[],none⟩},[jD]):=by unfold bz;rw [if_neg d];simp only [v];rw [if_neg i,if_neg n]
    rw [e];obtain ⟨a,b,f⟩:=iP (l:=l) j (out:=([jD]:List (List UInt8)).flatten) (by decide);rw [a,b,f,L (by omega),K (by omega),G (by omega)];exact ⟨fj.of ⟨h.closed,h.over,h.wait,h.known,j,rfl,h.nets,(fun t m=>by cases m),h.addr⟩,rfl,rfl⟩
 ·cases m:s.tx with
  | none=>
   rw [v] at d;unfold fO at d;rw [m] at d;exact absurd rfl d
  | some t=>
   have o:x.tos=t.tos:=by have:=h.tos;unfold IL at this;rw [m] at this;exact this
   have A:t.body=none:=by
    have:=h.inside;rw [j] at this;unfold JG at this;rw [m] at this
    cases Y:t.body with
    | none=>rfl
    | some b=>rw [show (some t:Option mK).bind (·.body)=t.body from rfl,Y] at this;cases this
   obtain ⟨_,p,B⟩:=E v;have V:bu l gZ=true:=by rw [Q,v];rfl
   have e:bz c s k=({s with tx:=some {t with tos:=cY t.tos c.most (s.nets || s.known || dM c k.name) k.name}},[b9 t.tos c.most (s.nets || s.known || dM c k.name) k.name]):=by unfold bz;rw [if_neg d];simp only [v,m]
   rw [e];have P:dM c k.name=xJ k.name:=by unfold dM;rw [Z,B]
   have J:∀u,JG {s with tx:=some {t with tos:=u}}=false:=fun u=>by unfold JG;show (t.body).isSome=false;rw [A];rfl
   by_cases i:t.tos.contains k.name=true
   ·have w:cY t.tos c.most (s.nets || s.known || dM c k.name) k.name=t.tos:=by unfold cY;rw [if_pos i]
    have z:b9 t.tos c.most (s.nets || s.known || dM c k.name) k.name=jD:=by unfold b9;rw [if_pos i];rfl
    rw [w,z];obtain ⟨a,b,f⟩:=iP (l:=l) j (out:=([jD]:List (List UInt8)).flatten) (by decide);have N:jF x.tos (fV l)=x.tos:=by unfold jF;rw [p,o,if_pos i]
    rw [a,b,f,V,N];exact ⟨fj.of ⟨h.closed,h.over,h.wait,h.known,by rw [J];exact j,o,h.nets,h.may,h.addr⟩,rfl,rfl⟩
   ·by_cases n:(t.tos.length:Int)=c.most
    ·have w:cY t.tos c.most (s.nets || s.known || dM c k.name) k.name=t.tos:=by unfold cY;rw [if_neg i,if_pos n]
     have z:b9 t.tos c.most (s.nets || s.known || dM c k.name) k.name=[52,53,50,32,109,97,110,121,13,10]:=by unfold b9;rw [if_neg i,if_pos n]
     have O:({s with tx:=some {t with tos:=t.tos}}:bG)=s:=by rw [show ({t with tos:=t.tos}:mK)=t from rfl,←m]
     rw [w,z,O];exact r ([[52,53,50,32,109,97,110,121,13,10]]:List (List UInt8)).flatten (by decide) (by decide) (by decide) (by omega)
    ·cases D:(s.nets || s.known || dM c k.name) with
     | true=>
      have w:cY t.tos c.most true k.name=t.tos++[k.name]:=by unfold cY;rw [if_neg i,if_neg n,if_pos rfl]
      have z:b9 t.tos c.most true k.name=jD:=by unfold b9;rw [if_neg i,if_neg n,if_pos rfl];rfl
      rw [w,z];obtain ⟨a,b,f⟩:=iP (l:=l) j (out:=([jD]:List (List UInt8)).flatten) (by decide);have N:jF x.tos (fV l)=t.tos++[k.name]:=by unfold jF;rw [p,o,if_neg i]
      rw [a,b,f,V,N];refine ⟨fj.of ⟨h.closed,h.over,h.wait,h.known,by rw [J];exact j,rfl,h.nets,fun y I=>?_,h.addr⟩,rfl,rfl⟩
      rcases List.mem_append.1 I with I | I
      ·exact h.may y (by rw [o];exact I)
      ·rw [List.mem_singleton.1 I];show uK x k.name=true;unfold uK;rw [P] at D;rw [h.known]
       cases U:s.nets with
       | true=>rw [decide_eq_true (h.nets U)];simp
       | false=>rw [U] at D;revert D;cases s.known <;> cases xJ k.name <;> simp
     | false=>
      have w:cY t.tos c.most false k.name=t.tos:=by unfold cY;rw [if_neg i,if_neg n,if_neg (by decide)]
      have z:b9 t.tos c.most false k.name=[53,53,48,32,110,111,13,10]:=by unfold b9;rw [if_neg i,if_neg n,if_neg (by decide)]
      have O:({s with tx:=some {t with tos:=t.tos}}:bG)=s:=by rw [show ({t with tos:=t.tos}:mK)=t from rfl,←m]
      rw [w,z,O];exact r ([[53,53,48,32,110,111,13,10]]:List (List UInt8)).flatten (by decide) (by decide) (by decide) (by omega)
def po (c:bX) (x:j0) (s:bG) (S:bp) (recs l:List UInt8):Prop:=
 (fL x l (aO c s S recs l false).2.2.2.flatten=[]∧(aO c s S recs l false).2.1=S∧(aO c s S recs l false).2.2.1=recs)∨
 ∃t b,s.tx=some t∧t.body=some b∧l=[46]∧x.tos=t.tos∧fL x l (aO c s S recs l false).2.2.2.flatten=[⟨S.items.length+1,0,[],t.tos,[]⟩]∧(aO c s S recs l false).2.1=S.plus (eJ S t.frm t.tos b.text)∧(aO c s S recs l false).2.2.1=recs++bJ (k9 (eJ S t.frm t.tos b.text))∧kB (aO c s S recs l false).2.2.2.flatten=S.items.length+1
theorem qR (D:tr l) (C:c.doms=na) (h:km x s):fj (gH x l (aO c s S recs l false).2.2.2.flatten) (if (aO c s S recs l false).1.over then none else some (aO c s S recs l false).1)∧dp x l (aO c s S recs l false).2.2.2.flatten=false∧po c x s S recs l:=by
 by_cases f:x.inside=true
 ·obtain ⟨t,j,b,m⟩:∃t,s.tx=some t∧∃b,t.body=some b:=by
   have:=h.inside;rw [f] at this;unfold JG at this
   cases j:s.tx with
   | none=>rw [j] at this;cases this
   | some t=>
    rw [j,show (some t:Option mK).bind (·.body)=t.body from rfl] at this
    cases m:t.body with
    | none=>rw [m] at this;cases this
    | some b=>exact ⟨t,rfl,b,m⟩
  have i:x.tos=t.tos:=by have:=h.tos;unfold IL at this;rw [j] at this;exact this
  have p:aO c s S recs l false=dn c s S recs t b l false:=by unfold aO;rw [j];simp only;rw [m]
  unfold po;rw [p]
  by_cases d:l=[46]
  ·have q:dn c s S recs t b l false=kz c s S recs t b:=by unfold dn;rw [if_pos d]
   rw [q];have I:∀g,gH x l g={x with inside:=false,tos:=[]}:=fun g=>by unfold gH;simp [f,d]
   have k:fj {x with inside:=false,tos:=[]} (if ({s with tx:=none}:bG).over then none else some {s with tx:=none}):=by
    exact fj.of ⟨h.closed,h.over,h.wait,h.known,rfl,rfl,h.nets,(fun t j=>by cases j),h.addr⟩
   have r:∀g,dd g≠mf→fL x l g=[]∧dp x l g=false:=fun g E=>by unfold fL dp;simp [f,d,E]
   rw [I];unfold kz
   by_cases u:b.bad=true
   ·rw [if_pos u];obtain ⟨n,o⟩:=r ([zm]:List (List UInt8)).flatten (by decide);exact ⟨k,o,.inl ⟨n,rfl,rfl⟩⟩
   ·rw [if_neg u]
    by_cases v:c.size < (b.text.length:Int)
    ·rw [if_pos v];obtain ⟨n,o⟩:=r ([uw]:List (List UInt8)).flatten (by decide);exact ⟨k,o,.inl ⟨n,rfl,rfl⟩⟩
    ·rw [if_neg v]
     by_cases w:jt c recs (eJ S t.frm t.tos b.text)=true
     ·rw [if_pos w];have B:([[50,53,48,32,107,101,112,116,32]++Lib.itoa ((S.items.length:Int)+1)++[13,10]]:List (List UInt8)).flatten=[50,53,48,32,107,101,112,116,32]++Lib.itoa ((S.items.length+1:Nat):Int)++[13,10]:=by simp
      have y:dd ([50,53,48,32,107,101,112,116,32]++Lib.itoa ((S.items.length+1:Nat):Int)++[13,10])=mf:=by rw [List.append_assoc];exact pE _ _ _ _ _
      have A:=Lu (S.items.length+1);simp only [B];refine ⟨k,?_,.inr ⟨t,b,j,m,d,i,?_,rfl,rfl,A⟩⟩
      ·unfold dp;simp only [f,d,ne_eq,not_true_eq_false,and_false,if_false,if_true,y,decide_true,Bool.true_and];rw [Bool.not_eq_false',List.all_eq_true];exact h.may
      ·unfold fL;rw [if_pos ⟨f,d,y⟩,A,i]
     ·rw [if_neg w];obtain ⟨n,o⟩:=r ([CR]:List (List UInt8)).flatten (by decide);exact ⟨k,o,.inl ⟨n,rfl,rfl⟩⟩
  ·have q:dn c s S recs t b l false=({s with tx:=some {t with body:=some (b.add l false c.size)}},S,recs,[]):=by unfold dn;rw [if_neg d]
   rw [q];have F:gH x l []=x:=by unfold gH;simp [f,d]
   have G:fL x l []=[]:=by unfold fL;simp [d]
   have H:dp x l []=false:=by unfold dp;simp [f,d]
   simp only [List.flatten_nil,F,G,H];exact ⟨fj.of (s:={s with tx:=some {t with body:=some (b.add l false c.size)}}) ⟨h.closed,h.over,h.wait,h.known,by rw [f];rfl,i,h.nets,h.may,h.addr⟩,trivial,.inl ⟨trivial,trivial,trivial⟩⟩
 ·have z:x.inside=false:=by simpa using f
  have p:aO c s S recs l false=((bz c s (bn l false)).1,S,recs,(bz c s (bn l false)).2):=by
   unfold aO
   cases j:s.tx with
   | none=>rfl
   | some t=>
    simp only;have:=h.inside;rw [z] at this;unfold JG at this;rw [j,show (some t:Option mK).bind (·.body)=t.body from rfl] at this
    cases m:t.body with
    | none=>rfl
    | some b=>rw [m] at this;cases this
  obtain ⟨a,b,e⟩:=Gv D C h z;unfold po;rw [p];exact ⟨a,e,.inl ⟨b,rfl,rfl⟩⟩
end
end Go.Proofs.YtofpegbpgkkgkaaGreatDoor
