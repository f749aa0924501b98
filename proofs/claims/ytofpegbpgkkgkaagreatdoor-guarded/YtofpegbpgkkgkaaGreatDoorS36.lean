import Derived.Test.YtofpegbpgkkgkaaGreatDoorS35
import Derived.Test.YtofpegbpgkkgkaaGreatDoorS30
import Derived.Test.YtofpegbpgkkgkaaGreatDoorS27
namespace Go.Proofs.YtofpegbpgkkgkaaGreatDoor
set_option maxHeartbeats 8000000
set_option maxRecDepth 1000000
open Go.RowKit
section
variable {E B:Nat→Prop} {pp pb mb:Nat} {c:bT} {w w':World} {q:Nat→Nat} {vr:Value} {S S':aa} {recs recs':List UInt8} {vs:Value} {ps:List Value} {sb ch:Nat} {A:Nat→Prop} {vw:Value} {s s':bA}
theorem Br (sb:Nat) (b:Bool) (w:World) (h:w.cell? ⟨sb,7,none⟩=some (.bool b)):Calls Tryz.prog 65 #[.pointer (some ⟨sb,0,none⟩)] w fun e w'=>e= .returned (.bool b)∧w=w':=by
 go_enter Tryz.func65,Tryz.ntmps65;go_wp2_with fail
 go_ret;exact ⟨rfl,rfl⟩
theorem sP [Kn] (h:dG E pp pb mb c w q vr S recs vs ps) (n:Nat) (m:n < ps.length) (_:ps.length≤100) (p:Option Addr) (j:ps[n]= .pointer p):
  Calls Tryz.prog 38 #[.pointer (some ⟨pp,0,none⟩),.int .i64 (n:Int)] w fun e w'=>e= .returned (.bool p.isSome)∧w=w':=by
 have d:=h.cell10;obtain ⟨g,k,l,f,i,b⟩:=h.at m;have o:w.cell? ⟨g,n,none⟩=some (.pointer p):=by rw [Lib.cell_of_heap i,b,j]
 rw [f] at d;have t:(n:Int) < (ps.length:Int):=by omega
 have r:(0:Int)≤(n:Int):=by omega
 clear h f i b j
 cases p with
 | none=>
  go_enter Tryz.func38,Tryz.ntmps38;go_wp2_with fail
  go_ret;exact ⟨rfl,rfl⟩
 | some a=>
  go_enter Tryz.func38,Tryz.ntmps38;go_wp2_with fail
  go_ret;exact ⟨rfl,rfl⟩
theorem Fj [Kn] (h:dG E pp pb mb c w q vr S recs vs ps) (n:Nat) (p:n < ps.length) (_:ps.length≤100) (l:ps[n]= .pointer (some ⟨sb,0,none⟩)) (b:Bool) (r:w.cell? ⟨sb,7,none⟩=some (.bool b)) (u:FrameMode):
  CallsD Tryz.prog 39 #[.pointer (some ⟨pp,0,none⟩),.int .i64 (n:Int)] u w fun e u' w'=>u'=u∧e= .returned (.tuple #[])∧∃g a,vs= .slice (some ⟨g,0,none⟩) ps.length a∧w'=if b then w.setCell ⟨g,n,none⟩ (.pointer none) else w:=by
 have m:=Lib.hid (Br sb b w r);have i:=h.cell10;obtain ⟨g,a,o,j,k,d⟩:=h.at p;have t:w.cell? ⟨g,n,none⟩=some (.pointer (some ⟨sb,0,none⟩)):=by rw [Lib.cell_of_heap k,d,l]
 have v:=Lib.frozen_of_heap k n;have x:(n:Int) < (ps.length:Int):=by omega
 rw [j] at i;have f:=Lib.hid j;clear h l j k d;go_enter_d Tryz.func39,Tryz.ntmps39
 go_wp2_with fail
 refine m.out.mono ?_;rintro e w' ⟨rfl,rfl⟩
 cases b with
 | true=>
  go_wp2_with fail
  go_end0
  exact ⟨rfl,g,⟨a,f.out⟩,rfl⟩
 | false=>
  go_wp2_with fail
  go_end0
  exact ⟨rfl,⟨g,a,f.out⟩,rfl⟩
def yr [Kn] (E:Nat→Prop) (pp pb mb:Nat) (c:bT) (w:World) (q:Nat→Nat) (vr:Value) (S:aa) (vs:Value) (ps:List Value) (sb ch:Nat) (A:Nat→Prop) (vw:Value) (n:Nat) (s':bA) (S':aa) (recs':List UInt8) (w':World):Prop:=
 ∃A' q' vr' vw',gJ E pp pb mb c w' q' vr' S' recs' vs (if s'.over then ps.set n (.pointer none) else ps) sb ch A' vw' s'∧(∀k,ka w' pb mb A' q' vr' S' vw' vs k→ka w pb mb A q vr S vw vs k∨w.heap.size≤k)∧aF (ka w pb mb A q vr S vw vs) w w'
theorem zV [Kn] (h:gJ E pp pb mb c w q vr S recs vs ps sb ch A vw s) (I:iv c s S recs) (n:Nat) (o:n < ps.length) (J:ps.length≤100) (p:ps[n]= .pointer (some ⟨sb,0,none⟩)) (a:List UInt8) (v:a.length≤1048576):
  Calls Tryz.prog 14 #[.pointer (some ⟨pp,0,none⟩),.int .i64 (n:Int),.string (bs a)] w fun e w'=>e= .returned (.tuple #[.string (bs (cH c (s,S,recs,[]) a).2.2.2),.int .i64 0])∧yr E pp pb mb c w q vr S vs ps sb ch A vw n (cH c (s,S,recs,[]) a).1 (cH c (s,S,recs,[]) a).2.1 (cH c (s,S,recs,[]) a).2.2.1 w':=by
 have O:=Lib.hid (sP h.post n o J _ p);have t:=h.post.cell10;obtain ⟨g,Q,R,D,H,d⟩:=h.post.at o;have Z:w.cell? ⟨g,n,none⟩=some (.pointer (some ⟨sb,0,none⟩)):=by rw [Lib.cell_of_heap H,d,p]
 have h1:(n:Int) < (ps.length:Int):=by omega
 rw [D] at t;have z:=Lib.hid (Ft h.rest I a v);have P:=Lib.hid h;have r:=Lib.hid p;obtain ⟨x,F⟩:∃x,cH c (s,S,recs,[]) a=x:=⟨_,rfl⟩;rw [F] at z ⊢;clear h p D H d I F;go_enter_defers Tryz.func14,Tryz.ntmps14
 go_wp2_with fail
 refine O.out.mono ?_;rintro e w' ⟨rfl,rfl⟩;go_wp2_with fail
 refine z.out.mono ?_;rintro e Y ⟨rfl,G⟩;obtain ⟨y,N,l,m,K,L,M⟩:=P.out.heard G;have b:=Lib.hid K;have i:=Lib.hid L;have j:=Lib.hid M;clear K L M G;go_wp2_with fail
 obtain ⟨vx,T,_⟩:=b.out.ses.ex;have u:Y.cell? ⟨sb,7,none⟩=some (.bool x.1.over):=T.cell 7;refine leaves_cons (f:=39) (args:=#[.pointer (some ⟨pp,0,none⟩),.int .i64 (n:Int)]) (by simp) (by simp [go_sem]) ?_;refine (Fj b.out.post n o J r.out x.1.over u .returning).mono ?_;rintro e u' w2 ⟨rfl,rfl,g',C,U,rfl⟩;refine ⟨.tuple #[.string (bs x.2.2.2),.int .i64 0],by simp [results,Tryz.results14,go_sem],rfl,?_⟩
 unfold yr
 cases x.1.over with
 | false=>exact ⟨y,N,l,m,b.out,i.out,j.out⟩
 | true=>
  obtain ⟨V,W,X⟩:=b.out.put (x:= .pointer none) U o;exact ⟨y,N,l,m,V,fun k e=>i.out k (W k e),j.out.trans X (fun k hk e=>(i.out k e).elim id (fun e=>by omega))⟩
end
theorem uB:(Tryz.prog.info? 91).map (fun i=>(i.zero,i.size,i.bytes))=some (some (.pointer none),1,8):=by kernel_rfl
section
variable {E B:Nat→Prop} {pp pb mb:Nat} {c:bT} {w w1 w':World} {q:Nat→Nat} {vr:Value} {S S':aa} {recs recs':List UInt8} {vs vs':Value} {ps ps':List Value} {sb ch:Nat} {A:Nat→Prop} {vw:Value} {s s':bA}
theorem dG.conn [Kn] (h:dG E pp pb mb c w q vr S recs vs ps) (u:aF (fun k=>vs.ownBlock=some k) w w1) (i:w1.ownsRow 0 91 1 vs' ps'.length ps') (G:∀g,vs'.ownBlock=some g→vs.ownBlock=some g∨w.heap.size≤g):dG E pp pb mb c (w1.setCell ⟨pp,10,none⟩ vs') q vr S recs vs' ps'∧(∀k,an (w1.setCell ⟨pp,10,none⟩ vs') pb mb q vr S k→an w pb mb q vr S k)∧aF (fun k=>k=pp∨vs.ownBlock=some k) w (w1.setCell ⟨pp,10,none⟩ vs'):=by
 have r:aH pp w1 (w1.setCell ⟨pp,10,none⟩ vs'):=(aH.refl _ _).setCell _;have K:aF (fun k=>k=pp∨vs.ownBlock=some k) w (w1.setCell ⟨pp,10,none⟩ vs'):=(u.mono (fun _ _ e=> .inr e)).trans (aF.same r) (fun _ _ e=> .inl e);have F:=h.lt pp h.epp;have o:vs.ownBlock≠some pp:=fun e=>(h.sd pp e).1 h.epp;obtain ⟨L,M,N,O,d,a⟩:=h.set;obtain ⟨D,I,J⟩:=d.blk;obtain ⟨C,f,v,y,P,z⟩:=h.blk;have l:=u.some_ f o;have t:=heap_setCell_same w1 pp 10 _ _ vs' l;have m:D=C:=by rw [I] at f;injection f with f;injection f
 subst m;have j:∀k,E k→k≠pp→¬(k=pp∨vs.ownBlock=some k):=fun k e n x=>x.elim n (fun x=>(h.sd k x).1 e);obtain ⟨H,p⟩:=h.bag.chg K (fun k e x=>x.elim (fun x=>h.eb pp h.epp (by rw [←x];exact e)) (fun x=>(h.sd k x).2 e));have b:∀g,vs'.ownBlock=some g→¬E g∧¬an w pb mb q vr S g:=fun g e=>(G g e).elim (h.sd g) (fun e=>⟨fun x=>by have:=h.lt g x;omega,fun x=>by have:=an.lt h.bag x;omega⟩);refine ⟨⟨⟨L,M,N,O,⟨⟨_,t,?_⟩,⟨d.rows.1.chg K (fun g e=>j g (a g (.inl e)).1 (a g (.inl e)).2),d.rows.2.1.chg K (fun g e=>j g (a g (.inr (.inl e))).1 (a g (.inr (.inl e))).2),d.rows.2.2.1.chg K (fun g e=>j g (a g (.inr (.inr (.inl e)))).1 (a g (.inr (.inr (.inl e)))).2),d.rows.2.2.2.chg K (fun g e=>j g (a g (.inr (.inr (.inr e)))).1 (a g (.inr (.inr (.inr e)))).2)⟩,d.may⟩,a⟩,h.glo.chg K (fun k e=>j k (h.egl k e) (fun x=>h.gpp (by rw [←x];exact e))),h.egl,h.gpp,h.epp,fun k e=>Nat.lt_of_lt_of_le (h.lt k e) K.size,⟨_,t,by simpa using v,by rw [Array.getElem?_setIfInBounds_ne (by decide)];exact y,by rw [Array.getElem?_setIfInBounds_self_of_lt (by omega)],by rw [Array.getElem?_setIfInBounds_ne (by decide)];exact z⟩,H,br i (aF.same r) (fun g e x=>(b g e).1 (by rw [x];exact h.epp)),fun k e x=>h.eb k e (p k x),fun g e=>⟨(b g e).1,fun x=>(b g e).2 (p g x)⟩⟩,p,K⟩
 rw [Array.toList_setIfInBounds,List.take_set_of_le (by decide)];exact J
def EM [Kn] (E:Nat→Prop) (pp pb mb:Nat) (c:bT) (w:World) (q:Nat→Nat) (vr:Value) (S:aa) (recs:List UInt8) (vs:Value) (ps:List Value) (addr:Int) (w':World):Prop:=
 ∃sb ch vs',gJ E pp pb mb c w' q vr S recs vs' (ps++[.pointer (some ⟨sb,0,none⟩)]) sb ch (fun k=>k=sb∨k=ch) (.slice none 0 0) (gx c addr)∧w.heap.size≤sb∧w.heap.size≤ch∧(∀g,vs'.ownBlock=some g→vs.ownBlock=some g∨w.heap.size≤g)∧(∀k,an w' pb mb q vr S k→an w pb mb q vr S k)∧aF (fun k=>k=pp∨vs.ownBlock=some k) w w'
theorem yP [Kn] (h:dG E pp pb mb c w q vr S recs vs ps) (a:Int) (h0:0≤a) (h1:a≤4294967295) (hl:ps.length < 100):
  Calls Tryz.prog 13 #[.pointer (some ⟨pp,0,none⟩),.int .i64 a] w fun e w'=>e= .returned (.tuple #[.int .i64 (ps.length:Int),.string (bs (nZ c)),.int .i64 0])∧EM E pp pb mb c w q vr S recs vs ps a w':=by
 have Y:=h.cell10;have c9:=h.cell9;have HB:=Lib.hid (Db (pb:=pb) (w:=w.drew) (h.env.below ((Below.refl _ _).drew)) a);have n:=Lib.hid h;obtain ⟨M,N,Z⟩:=aE (aC h.row);rw [Z] at Y;have d:=Lib.hid Z;have n0:¬a < 0:=by omega
 have n1:¬(4294967295:Int) < a:=by omega
 have n2:¬((ps.length:Int)=100):=by omega
 clear h Z;go_enter Tryz.func13,Tryz.ntmps13;go_wp2_with fail
 go_region_law (first
  | (go_simp;go_at_call 37;refine HB.out.mono ?_;rintro e w1 ⟨sb,ch,rfl,hS,m,l,F⟩;have W:=Lib.hid hS;have Q:=Lib.hid F;have X:=Lib.hid m;have R:=Lib.hid l;clear hS m l F;dsimp only))
 all_goals
  have O:Below w.heap.size w w1:=((Below.refl _ w).drew).trans (Q.out.mono (Nat.le_refl _));have b:=(n.out.below O).1;have p:=b.cell10;rw [d.out] at p;have a2:∀o:Obj,(w1.alloc o).cell? ⟨pp,10,none⟩=some (.slice M ps.length N):=fun o=>(World.cell?_of_block (((Below.refl _ w1).alloc (Nat.le_refl _) o).block pp (b.lt pp b.epp))).trans p;obtain ⟨i,hi,J,u,K⟩:=info_parts uB;have f:=b.row;rw [d.out] at f;obtain ⟨g,j,D,I,H,L,O2⟩:=oC (P:=Tryz.prog) Tryz.underlying85 hi J u K rfl w1 (w1.alloc (.cells #[.pointer (some ⟨sb,0,none⟩)] 91)) (.slice M ps.length N) (.pointer (some ⟨sb,0,none⟩)) ps.length ps f rfl ((Below.refl _ _).alloc (Nat.le_refl _) _) (heap_alloc_new w1 _) (by unfold maxLen;omega) (by omega);have V:=Lib.hid I;have T:=Lib.hid H;have z:=Lib.hid L;have U:=Lib.hid O2;have C:=L.some_ b.blk.choose_spec.1 (fun e=>(b.sd pp (by rw [d.out];exact e)).1 b.epp)
  have a4:D.cell? ⟨pp,10,none⟩=some (.slice M ps.length N):=by
   rw [←p];exact World.cell?_of_block (L.block pp (b.lt pp b.epp) (fun e=>(b.sd pp (by rw [d.out];exact e)).1 b.epp))
  have a5:=Lib.frozen_of_heap C 10;have a3:=Lib.hid b;have y:=Lib.hid O;clear b O f I H L O2 C hi J u K
  go_wp2_with (first
   | (at_builtin;refine bH rfl _ _ 85 rfl _ _ (.slice (some ⟨g,0,none⟩) (ps.length+1) j) D rfl rfl V.out ?_)
   | fail)
  refine bodyPost_ret (v:= .tuple #[.int .i64 (ps.length:Int),.string (bs (nZ c)),.int .i64 0]) (by simp [results,Tryz.results13,go_sem]) rfl ⟨rfl,?_⟩;have t:∀k,(Value.slice M ps.length N).ownBlock=some k→vs.ownBlock=some k:=fun k e=>by rw [d.out];exact e
  have Kw:aF (fun k=>vs.ownBlock=some k) w D:=(aF.below y.out).trans z.out (fun k _ e=>t k e);have G:(ps++[Value.pointer (some ⟨sb,0,none⟩)]).length=ps.length+1:=by simp
  have u:w.heap.size≤w1.heap.size:=y.out.size;have m:w.heap.size≤sb:=X.out;have l:w.heap.size≤ch:=R.out;have a0:vs.ownBlock=some g∨w1.heap.size≤g:=U.out.imp (t g) id
  have r:∀k,(Value.slice (some ⟨g,0,none⟩) (ps.length+1) j).ownBlock=some k→vs.ownBlock=some k∨w1.heap.size≤k:=fun k e=>by
   injection e with e;have e:g=k:=e;rw [←e];exact a0
  obtain ⟨p1,p2,p3⟩:=n.out.conn (vs':= .slice (some ⟨g,0,none⟩) (ps.length+1) j) (ps':=ps++[Value.pointer (some ⟨sb,0,none⟩)]) Kw (by rw [G];exact T.out) (fun k e=>(r k e).imp id (fun e=>by omega));have a1:pp < w.heap.size:=n.out.lt pp n.out.epp;have K3:aF (fun k=>k < w.heap.size) w1 (D.setCell ⟨pp,10,none⟩ (.slice (some ⟨g,0,none⟩) (ps.length+1) j)):=(z.out.mono (fun k _ e=>n.out.slt (t k e))).trans (aF.same ((aH.refl pp D).setCell _)) (fun k _ e=>by rw [e];exact a1);have l1:sb < w1.heap.size:=ah W.out.blk;have l2:ch < w1.heap.size:=ah W.out.chan.choose_spec.choose_spec;refine ⟨sb,ch,_,⟨p1,⟨⟨.pointer none,W.out.chg K3 (by omega) (by omega),rfl⟩,.inl rfl,.inr rfl,fun k e=>?_⟩,World.ownsRow_nil _ _ _ _,fun k e x=>?_,fun k e x=>?_,(by intro g e;cases e),fun k e=>⟨fun x=>?_,(by intro x;cases x)⟩⟩,m,l,fun k e=>(r k e).imp id (fun e=>by omega),p2,p3⟩
  ·have:=K3.size
   rcases e with e | e <;> omega
  ·have:=n.out.lt k e
   rcases x with x | x <;> omega
  ·have:=an.lt n.out.bag (p2 k x)
   rcases e with e | e <;> omega
  ·have:k < w.heap.size∨w1.heap.size≤k:=(r k e).imp (fun e=>n.out.slt e) id
   rcases x with x | x <;> omega
end
section
variable {E B:Nat→Prop} {pp pb mb:Nat} {c:bT} {w w':World} {q:Nat→Nat} {vr:Value} {S:aa} {recs:List UInt8} {vs:Value} {l:List (Option dQ)} {x:dQ}
theorem bJ.clt [Kn] (_:bJ E pp pb mb c w q vr S recs vs l) {n:Nat} (d:l[n]? =some (some x)):n < (l.map fk).length∧∃a:n < (l.map fk).length,(l.map fk)[n]= .pointer (some ⟨x.sb,0,none⟩):=by
 obtain ⟨b,e⟩:=List.getElem?_eq_some_iff.1 d;have a:n < (l.map fk).length:=by rw [List.length_map];exact b
 exact ⟨a,a,by rw [List.getElem_map,e];rfl⟩
theorem bJ.drop [Kn] (h:bJ E pp pb mb c w q vr S recs vs l) {g d n:Nat} (j:vs= .slice (some ⟨g,0,none⟩) (l.map fk).length d) (u:n < (l.map fk).length):bJ E pp pb mb c (w.setCell ⟨g,n,none⟩ (.pointer none)) q vr S recs vs (l.set n none)∧(∀k,dP (w.setCell ⟨g,n,none⟩ (.pointer none)) pb mb q vr S vs (l.set n none) k→dP w pb mb q vr S vs l k)∧aF (dP w pb mb q vr S vs l) w (w.setCell ⟨g,n,none⟩ (.pointer none)):=by
 obtain ⟨A,p,r⟩:=h.post.put (x:= .pointer none) j u;have b:vs.ownBlock=some g:=by rw [j];rfl
 have a:∀{m:Nat} {y:dQ},(l.set n none)[m]? =some (some y)→m≠n∧l[m]? =some (some y):=fun e=>by
  rcases pX e with ⟨_,e⟩ | e
  ·cases e
  ·exact e
 refine ⟨⟨by rw [CR];exact A,fun m y i=>?_,fun v z C D f s t=>h.apart v z C D f (a s).2 (a t).2,by rw [List.length_set];exact h.len,h.keep⟩,fun k e=>?_,r.mono (fun k _ e=> .inr (.inl (by rw [e];exact b)))⟩
 ·have o:=h.ok m y (a i).2;exact o.chg r (fun k e x=>o.fs k e (by rw [x];exact b)) p
 ·rcases e with e | e | ⟨m,y,i,e⟩
  ·exact .inl (p k e)
  ·exact .inr (.inl e)
  ·exact .inr (.inr ⟨m,y,(a i).2,e⟩)
theorem wW [Kn] (h:bJ E pp pb mb c w q vr S recs vs l) (n:Nat) (y:l[n]? =some (some x)):
  Calls Tryz.prog 34 #[.pointer (some ⟨pp,0,none⟩),.int .i64 (n:Int)] w fun e w'=>e= .returned (.int .i64 0)∧bJ E pp pb mb c w' q vr S recs vs (l.set n none)∧(∀k,dP w' pb mb q vr S vs (l.set n none) k→dP w pb mb q vr S vs l k)∧aF (dP w pb mb q vr S vs l) w w':=by
 obtain ⟨d,_,j⟩:=h.clt y;have p:(l.map fk).length≤100:=by rw [List.length_map];exact h.len
 have s:=Lib.hid (sP h.post n d p _ j);have b:=h.post.cell10;obtain ⟨g,t,u,f,i,a⟩:=h.post.at d;have z:w.cell? ⟨g,n,none⟩=some (.pointer (some ⟨x.sb,0,none⟩)):=by rw [Lib.cell_of_heap i,a,j]
 have A:=Lib.frozen_of_heap i n;have v:(n:Int) < ((l.map fk).length:Int):=by omega
 have r:=Lib.hid (h.drop f d);rw [f] at b;obtain ⟨m,o⟩:∃m,(l.map fk).length=m:=⟨_,rfl⟩;rw [o] at b v p;clear h j f i a o d;go_enter Tryz.func34,Tryz.ntmps34;go_wp2_with fail
 refine s.out.mono ?_;rintro e w' ⟨rfl,rfl⟩;go_wp2_with fail
 go_ret;exact ⟨rfl,r.out⟩
def I1 [Kn] (E:Nat→Prop) (pp pb mb:Nat) (c:bT) (w:World) (q:Nat→Nat) (vr:Value) (S:aa) (vs:Value) (l:List (Option dQ)) (n sb ch:Nat) (s':bA) (S':aa) (recs':List UInt8) (w':World):Prop:=
 ∃q' vr' A' vw',bJ E pp pb mb c w' q' vr' S' recs' vs (l.set n (if s'.over then none else some ⟨sb,ch,A',vw',s'⟩))∧(∀k,dP w' pb mb q' vr' S' vs (l.set n (if s'.over then none else some ⟨sb,ch,A',vw',s'⟩)) k→dP w pb mb q vr S vs l k∨w.heap.size≤k)∧aF (dP w pb mb q vr S vs l) w w'
theorem Ej [Kn] (h:bJ E pp pb mb c w q vr S recs vs l) (n:Nat) (g:l[n]? =some (some x)) (f:iL c=true) (a:List UInt8) (p:a.length≤1048576):
  Calls Tryz.prog 14 #[.pointer (some ⟨pp,0,none⟩),.int .i64 (n:Int),.string (bs a)] w fun e w'=>e= .returned (.tuple #[.string (bs (cH c (x.s,S,recs,[]) a).2.2.2),.int .i64 0])∧I1 E pp pb mb c w q vr S vs l n x.sb x.ch (cH c (x.s,S,recs,[]) a).1 (cH c (x.s,S,recs,[]) a).2.1 (cH c (x.s,S,recs,[]) a).2.2.1 w':=by
 obtain ⟨o,_,v⟩:=h.clt g;have D:(l.map fk).length≤100:=by rw [List.length_map];exact h.len
 have t:=(h.ok n x g).inv;have d:=(pP f a (x.s,S,recs,[]) t).1;refine (zV (h.one g) t n o D v a p).mono ?_;rintro e F ⟨rfl,m,A,k,b,j,r,z⟩;obtain ⟨y,C⟩:∃y,cH c (x.s,S,recs,[]) a=y:=⟨_,rfl⟩;rw [C] at j r d ⊢;refine ⟨rfl,A,k,m,b,?_⟩
 cases u:y.1.over with
 | true=>
  rw [u] at j;exact h.heard g d (.inr rfl) j r z
 | false=>
  rw [u] at j;refine h.heard g d (.inl rfl) ?_ r z
  have e:(l.map fk).set n (fk (some ⟨x.sb,x.ch,m,b,y.1⟩))=l.map fk:=by
   apply List.ext_getElem?;intro i
   by_cases s:n=i
   ·subst s;rw [List.getElem?_set_self o,List.getElem?_eq_getElem o,v];rfl
   ·rw [List.getElem?_set_ne s]
  show gJ E pp pb mb c F A k y.2.1 y.2.2.1 vs ((l.map fk).set n (fk (some ⟨x.sb,x.ch,m,b,y.1⟩))) x.sb x.ch m b y.1;rw [e];exact j
theorem wY [Kn] (h:bJ E pp pb mb c w q vr S recs vs l) (b:Int) (k:¬(0≤b∧b≤4294967295∧l.length < 100)):
  Calls Tryz.prog 13 #[.pointer (some ⟨pp,0,none⟩),.int .i64 b] w fun e w'=>e= .returned (.tuple #[.int .i64 0,.string ⟨#[]⟩,.int .i64 3])∧w=w':=by
 have d:=h.post.cell10;obtain ⟨a,j,g⟩:=aE (aC h.post.row);have f:(l.map fk).length=l.length:=List.length_map ..;have m:=h.len;rw [g,f] at d;clear h g
 by_cases n:b < 0
 ·go_enter Tryz.func13,Tryz.ntmps13;go_wp2_with fail
  refine bodyPost_ret (v:= .tuple #[.int .i64 0,.string ⟨#[]⟩,.int .i64 3]) (by simp [results,Tryz.results13,go_sem]) rfl ?_;exact ⟨rfl,rfl⟩
 ·by_cases o:(4294967295:Int) < b
  ·go_enter Tryz.func13,Tryz.ntmps13;go_wp2_with fail
   refine bodyPost_ret (v:= .tuple #[.int .i64 0,.string ⟨#[]⟩,.int .i64 3]) (by simp [results,Tryz.results13,go_sem]) rfl ?_;exact ⟨rfl,rfl⟩
  ·have i:l.length=100:=by omega
   rw [i] at d;clear k i m f;go_enter Tryz.func13,Tryz.ntmps13;go_wp2_with fail
   refine bodyPost_ret (v:= .tuple #[.int .i64 0,.string ⟨#[]⟩,.int .i64 3]) (by simp [results,Tryz.results13,go_sem]) rfl ?_;exact ⟨rfl,rfl⟩
theorem mE {l:List (Option dQ)} {v:Option dQ} {n:Nat} {y:dQ} (h:(l++[v])[n]? =some (some y)):(n=l.length∧v=some y)∨(n < l.length∧l[n]? =some (some y)):=by
 by_cases a:n < l.length
 ·rw [List.getElem?_append_left a] at h;exact .inr ⟨a,h⟩
 ·rw [List.getElem?_append_right (by omega)] at h
  by_cases e:n - l.length=0
  ·rw [e] at h;exact .inl ⟨by omega,by injection h⟩
  ·rw [List.getElem?_eq_none (by simp;omega)] at h
   cases h
def I0 [Kn] (E:Nat→Prop) (pp pb mb:Nat) (c:bT) (w:World) (q:Nat→Nat) (vr:Value) (S:aa) (recs:List UInt8) (vs:Value) (l:List (Option dQ)) (addr:Int) (w':World):Prop:=
 ∃vs' sb ch A,bJ E pp pb mb c w' q vr S recs vs' (l++[some ⟨sb,ch,A,.slice none 0 0,gx c addr⟩])∧(∀k,dP w' pb mb q vr S vs' (l++[some ⟨sb,ch,A,.slice none 0 0,gx c addr⟩]) k→dP w pb mb q vr S vs l k∨w.heap.size≤k)∧aF (fun k=>k=pp∨dP w pb mb q vr S vs l k) w w'
theorem Dj [Kn] (h:bJ E pp pb mb c w q vr S recs vs l) (a:Int) (M:0≤a) (N:a≤4294967295) (O:l.length < 100):
  Calls Tryz.prog 13 #[.pointer (some ⟨pp,0,none⟩),.int .i64 a] w fun e w'=>e= .returned (.tuple #[.int .i64 (l.length:Int),.string (bs (nZ c)),.int .i64 0])∧I0 E pp pb mb c w q vr S recs vs l a w':=by
 have j:(l.map fk).length=l.length:=List.length_map ..;refine (yP h.post a M N (by rw [j];exact O)).mono ?_;rintro e T ⟨rfl,sb,r,C,g,P,Q,F,G,H⟩;rw [j];refine ⟨rfl,C,sb,r,fun k=>k=sb∨k=r,?_⟩
 have A:∀(m:Nat) (y:dQ),l[m]? =some (some y)→∀k,y.own k→¬(k=pp∨vs.ownBlock=some k):=fun m y d k e x=>by
  have o:=h.ok m y d
  rcases x with x | x
  ·exact o.fe k e (by rw [x];exact h.post.epp)
  ·exact o.fs k e x
 have b:∀k,(dQ.mk sb r (fun k=>k=sb∨k=r) (.slice none 0 0) (gx c a)).own k→w.heap.size≤k:=fun k e=>by
  rcases e with (e | e) | e
  ·rw [e];exact P
  ·rw [e];exact Q
  ·cases e
 have R:iv c (gx c a) S recs:=⟨(fun t e=>by cases e),h.keep.1,h.keep.2.1,h.keep.2.2,by show ([]:List UInt8).length≤102;decide⟩
 refine ⟨⟨by rw [List.map_append];exact g.post,fun m y d=>?_,fun I J K L n g1 g2 k s u=>?_,by rw [List.length_append];simp only [List.length_cons,List.length_nil];omega,h.keep⟩,fun k e=>?_,H.mono (fun k _ e=>e.imp id (fun e=> .inr (.inl e)))⟩
 ·rcases mE d with ⟨_,e⟩ | ⟨_,d⟩
  ·injection e with e;subst e;exact ⟨g.ses,g.wrow,R,fun k e y=>e.elim (fun e=>g.ea k y e) (fun e=>(g.wd k e).1 y),fun k e y=>e.elim (fun e=>g.ab k e y) (fun e=>(g.wd k e).2.2 y),fun k e y=>e.elim (fun e=>(g.sa k y).1 e) (fun e=>(g.sa k y).2 e),fun k e=>(g.wd k e).2.1⟩
  ·have o:=h.ok m y d;have i:=o.chg H (A m y d) G;exact ⟨i.ses,i.row,i.inv,i.fe,i.fb,fun k e x=>(F k x).elim (o.fs k e) (fun x=>by have:=o.lt e;omega),i.fw⟩
 ·rcases mE g1 with ⟨D,v⟩ | ⟨D,g1⟩
  ·rcases mE g2 with ⟨p,_⟩ | ⟨p,g2⟩
   ·exact n (D.trans p.symm)
   ·injection v with v;subst v;have:=(h.ok J L g2).lt u;have:=b k s;omega
  ·rcases mE g2 with ⟨p,z⟩ | ⟨p,g2⟩
   ·injection z with z;subst z;have:=(h.ok I K g1).lt s;have:=b k u;omega
   ·exact h.apart I J K L n g1 g2 k s u
 ·rcases e with e | e | ⟨m,y,d,e⟩
  ·exact .inl (.inl (G k e))
  ·exact (F k e).imp (fun e=> .inr (.inl e)) id
  ·rcases mE d with ⟨_,f⟩ | ⟨_,d⟩
   ·injection f with f;subst f;exact .inr (b k e)
   ·exact .inl (.inr (.inr ⟨m,y,d,e⟩))
end
section
variable {E B:Nat→Prop} {pp pb mb:Nat} {c:bT} {w w':World} {q q':Nat→Nat} {vr vr':Value} {S S':aa} {recs recs':List UInt8} {vs:Value} {l:List (Option dQ)}
theorem bJ.bagged [K:Kn] {D':Nat→Int×Int} {n':Nat} (h:bJ E pp pb mb c w q vr S recs vs l) (D:@eJ (Kn.mk D' n' K.tk) w' pb mb q' vr' S' recs') (a:aF B w w') (f:∀k,E k→¬B k) (A:∀k,vs.ownBlock=some k→¬B k) (i:∀(n:Nat) (x:dQ),l[n]? =some (some x)→∀k,x.own k→¬B k) (j:∀k,an w' pb mb q' vr' S' k→an w pb mb q vr S k∨w.heap.size≤k) (d:uf (S',recs')):
  @bJ (Kn.mk D' n' K.tk) E pp pb mb c w' q' vr' S' recs' vs l∧∀k,dP w' pb mb q' vr' S' vs l k→dP w pb mb q vr S vs l k∨w.heap.size≤k:=by
 obtain ⟨G,H,I,J,F,m⟩:=h.post.set;obtain ⟨C,p,r,s,t,u⟩:=h.post.blk;have b:∀k,k < w.heap.size→¬an w pb mb q vr S k→¬an w' pb mb q' vr' S' k:=fun k L v z=>(j k z).elim v (fun e=>by omega);refine ⟨@bJ.mk (Kn.mk D' n' K.tk) _ _ _ _ _ _ _ _ _ _ _ _ (@dG.mk (Kn.mk D' n' K.tk) _ _ _ _ _ _ _ _ _ _ _ _ ⟨G,H,I,J,F.chg a (fun k e=>f k (m k e).1) (f pp h.post.epp),m⟩ (h.post.glo.chg a (fun k e=>f k (h.post.egl k e))) h.post.egl h.post.gpp h.post.epp (fun k e=>Nat.lt_of_lt_of_le (h.post.lt k e) a.size) ⟨C,a.some_ p (f pp h.post.epp),r,s,t,u⟩ D (br h.post.row a A) (fun k e=>b k (h.post.lt k e) (h.post.eb k e)) (fun g e=>⟨(h.post.sd g e).1,b g (h.post.slt e) (h.post.sd g e).2⟩)) (fun n x e=>?_) h.apart h.len ⟨d.time,d.led,d.ok⟩,fun k e=>?_⟩
 ·have o:=h.ok n x e;exact qi.mk (o.ses.chg a (fun k y=>i n x e k (.inl y))) (br o.row a (fun k y=>i n x e k (.inr y))) ⟨o.inv.tx,d.time,d.led,d.ok,o.inv.wait⟩ o.fe (fun k y=>b k (o.lt y) (o.fb k y)) o.fs o.fw
 ·rcases e with e | e | e
  ·exact (j k e).imp .inl id
  ·exact .inl (.inr (.inl e))
  ·exact .inl (.inr (.inr e))
theorem bJ.sok [Kn] (h:bJ E pp pb mb c w q vr S recs vs l):uf (S,recs):=⟨h.keep.2.2,h.keep.2.1,h.keep.1⟩
end
theorem lW {a pb mb:Nat} {q:Nat→Nat} {vr:Value} {S:aa} {w:World} (h:bf a w pb mb q vr S):Calls Tryz.prog 49 #[.pointer (some ⟨pb,0,none⟩)] w fun e b=>e= .returned (.int .i64 (S.time:Int))∧w=b:=by
 have d:w.cell? ⟨pb,1,none⟩=some (.int .i64 S.time):=by rw [Lib.cell_of_heap h.bag];rfl
 clear h;go_enter Tryz.func49,Tryz.ntmps49;go_wp2_with fail
 go_ret;exact ⟨rfl,rfl⟩
section
variable {E:Nat→Prop} {pp pb mb:Nat} {c:bT} {w:World} {q:Nat→Nat} {vr:Value} {S:aa} {recs:List UInt8} {vs:Value} {l:List (Option dQ)}
theorem Ct [Kn] (h:bJ E pp pb mb c w q vr S recs vs l) (T:Int) (j:¬((S.time:Int)≤T∧T≤1000000000)):
  Calls Tryz.prog 23 #[.pointer (some ⟨pp,0,none⟩),.int .i64 T] w fun e b=>e= .returned (.int .i64 3)∧w=b:=by
 have f:=h.post.cell9;have a:=Lib.hid (lW h.post.bag.inn);clear h
 by_cases g:T < (S.time:Int)
 ·go_enter Tryz.func23,Tryz.ntmps23;go_wp2_with (first | (go_at_call 49;refine a.out.mono ?_;rintro e d ⟨rfl,rfl⟩) | fail)
  go_ret;exact ⟨rfl,rfl⟩
 ·have i:(1000000000:Int) < T:=by omega
  go_enter Tryz.func23,Tryz.ntmps23;go_wp2_with (first | (go_at_call 49;refine a.out.mono ?_;rintro e d ⟨rfl,rfl⟩) | fail)
  go_ret;exact ⟨rfl,rfl⟩
theorem An [K:Kn] (h:bJ E pp pb mb c w q vr S recs vs l) (T:Int) (d:(S.time:Int)≤T∧T≤1000000000) (g:Nat) (f:K.tk= .pointer (some ⟨g,0,none⟩)):
  Calls Tryz.prog 23 #[.pointer (some ⟨pp,0,none⟩),.int .i64 T] w fun e i=>e= .returned (.int .i64 6)∧w=i:=by
 have j:=h.post.cell9;have a:=h.post.cell11;rw [f] at a;have b:=Lib.hid (lW h.post.bag.inn);have k:¬T < (S.time:Int):=by omega
 have m:¬(1000000000:Int) < T:=by omega
 clear h d;go_enter Tryz.func23,Tryz.ntmps23;go_wp2_with (first | (go_at_call 49;refine b.out.mono ?_;rintro e n ⟨rfl,rfl⟩) | fail)
 go_ret;exact ⟨rfl,rfl⟩
def IY [K:Kn] (E:Nat→Prop) (pp pb mb:Nat) (c:bT) (w:World) (q:Nat→Nat) (vr:Value) (S:aa) (vs:Value) (l:List (Option dQ)) (y:aa×List UInt8) (w':World):Prop:=
 ∃q' vr',bJ E pp pb mb c w' q' vr' y.1 y.2 vs l∧(∀k,dP w' pb mb q' vr' y.1 vs l k→dP w pb mb q vr S vs l k∨w.heap.size≤k)∧aF (dP w pb mb q vr S vs l) w w'
theorem IE [K:Kn] (h:bJ E pp pb mb c w q vr S recs vs l) (T:Nat) (p:S.time≤T∧T≤1000000000) (I:K.tk= .pointer none):
  Calls Tryz.prog 23 #[.pointer (some ⟨pp,0,none⟩),.int .i64 (T:Int)] w fun e P=>e= .returned (.int .i64 0)∧IY E pp pb mb c w q vr S vs l (dt c.life (⟨S.items,T⟩,recs) S.live) P:=by
 have G:=h.post.cell9;have o:=h.post.cell11;rw [I] at o;have C:=Lib.hid (lW h.post.bag.inn);have V:¬(T:Int) < (S.time:Int):=by omega
 have W:¬(1000000000:Int) < (T:Int):=by omega
 obtain ⟨X,Z,vU,vW,B,O⟩:=h.post.set;have R:w.drew.cell? ⟨pp,7,none⟩=some (.int .i64 c.life):=B.cell 7 (by decide);have U:w.drew.cell? ⟨pp,9,none⟩=some (.pointer (some ⟨pb,0,none⟩)):=G;obtain ⟨m,r⟩:=h.post.glo.len;have g:=aA r;have u:E 0:=h.post.egl _ (.inl rfl);have j:Below w.heap.size w w.drew:=(Below.refl _ _).drew;have f:=Lib.hid (Gu pb mb q vr S recs T c.life m w.drew (h.post.bag.below j) h.sok p.2 ((j.cell g).trans r) (fun e=>h.post.eb _ u (e.imp (cI h.post.bag.inn j) id)));have a:=qe (x:=((⟨S.items,T⟩:aa),recs)) ⟨h.sok.ok.time T,h.sok.led,p.2⟩ c.life (l:=S.live) (fun i H=>H) (iy S) S.live.length (Nat.le_refl _);rw [List.take_length] at a;have d:=Lib.hid a.1;have b:=Lib.hid h;obtain ⟨Y,t⟩:∃Y,dt c.life (⟨S.items,T⟩,recs) S.live=Y:=⟨_,rfl⟩;rw [t] at f d ⊢;clear h B O r g u j a t p;go_enter Tryz.func23,Tryz.ntmps23;go_wp2_with (first | (go_at_call 49;refine C.out.mono ?_;rintro e Q ⟨rfl,rfl⟩) | fail)
 go_region_law (first
  | (go_simp;go_at_call 50;refine f.out.mono ?_;rintro e Q ⟨rfl,v⟩;have D:=Lib.hid (fW.below b.out.post.bag ((Below.refl w.heap.size w).drew) v);clear v;dsimp only))
 all_goals
  go_wp2_with fail
  go_ret;obtain ⟨N,s,F,A,J⟩:=D.out;obtain ⟨L,M⟩:=bJ.bagged (D':=K.D0) (n':=K.n0) b.out F A (fun k e x=>b.out.post.eb k e x) (fun k e x=>(b.out.post.sd k e).2 x) (fun n x e k y z=>(b.out.ok n x e).fb k y z) J d.out;exact ⟨rfl,N,s,L,M,A.mono (fun k _ e=> .inl e)⟩
end
theorem yc (tb:Nat) (b:Bool) (w:World) (h:w.cell? ⟨tb,10,none⟩=some (.bool b)):Calls Tryz.prog 77 #[.pointer (some ⟨tb,0,none⟩)] w fun e a=>e= .returned (.bool b)∧w=a:=by
 go_enter Tryz.func77,Tryz.ntmps77;go_wp2_with fail
 go_ret;exact ⟨rfl,rfl⟩
structure EN (w:World) (pp cap:Nat) (host frm body sent:List UInt8) (t:aP):Prop where
 hh:w.cell? ⟨pp,0,none⟩=some (.string (bs host))
 hl:host.length≤1000
 fl:frm.length≤1000
 sl:sent.length≤10000000000000
 dots:Calls Tryz.prog 130 #[.string (bs body)] w fun e w'=>e= .returned (.string (bs sent))∧Below w.heap.size w w'
 names:∀x∈t.una,x.2.length≤1000
 room:t.came.length+t.una.length≤cap∧t.came.length+t.wil.length≤cap
 nu:t.una.length≤1000∧t.wil.length≤999
 una:t.said=3→t.una≠[]
section
variable {w:World} {tb ch pp pb:Nat} {va vu vl:Value} {frm body:List UInt8} {cap:Nat} {t:aP}
theorem Iw (h:bM w tb ch pp pb va vu vl frm body cap false t) (b c:List UInt8) (d:EN w pp cap b frm body c t) (r:t.said < 6) (f:Nat) (A:f≤100000):
  Calls Tryz.prog 57 #[.pointer (some ⟨tb,0,none⟩),.int .i64 (f:Int)] w (fF tb ch pp pb va vl frm body cap w (t.hear b frm c (f / 100))):=by
 have y:w.cell? ⟨tb,6,none⟩=some (.int .i64 (t.said:Int)):=h.cell 6;obtain ⟨a,u⟩:∃a:Nat,f / 100=a:=⟨_,rfl⟩;have B:Int.tdiv (f:Int) 100=(a:Int):=by rw [←u];rfl
 have z:IntKind.i64.wrap (a:Int)=(a:Int):=by rw [IntKind.wrap_i64];omega
 rw [u];have v:t.said=0∨t.said=1∨t.said=2∨t.said=3∨t.said=4∨t.said=5:=by omega
 have k:Hid (t.said=0→_):=Lib.hid (fun e=>pO h b c d.hh d.hl e a);have l:Hid (t.said=1→_):=Lib.hid (fun e=>ux h b c d.fl e a);have m:Hid (t.said=2→_):=Lib.hid (fun e=>sK h b c d.names d.nu.1 (by have:=d.nu.2;omega) d.room.1 e a);have n:Hid (t.said=3→_):=Lib.hid (fun e=>oU h b c d.names d.nu.1 d.nu.2 d.room.1 e (d.una e) a);have o:Hid (t.said=4→_):=Lib.hid (fun e=>xz h b c (by have:=d.nu.2;omega) d.room.2 e d.sl d.dots a);have p:Hid (t.said=5→_):=Lib.hid (fun e=>xy h b c (by have:=d.nu.2;omega) d.room.2 e a);obtain ⟨X,x⟩:∃X,t.hear b frm c a=X:=⟨_,rfl⟩;rw [x] at k l m n o p ⊢;clear h d u x
 rcases v with e | e | e | e | e | e
 all_goals
  have q:=Lib.hid e;rw [e] at y
 ·have i:=Lib.hid (k.out q.out);clear k l m n o p e r;go_enter_defers Tryz.func57,Tryz.ntmps57
  go_wp2_with fail
  refine i.out.mono ?_;rintro e s ⟨rfl,g⟩;have j:=Lib.hid g;clear g;go_wp2_with fail
  exact ⟨.string (bs X.2),by simp [results,Tryz.results57,go_sem],rfl,j.out⟩
 ·have i:=Lib.hid (l.out q.out);clear k l m n o p e r;go_enter_defers Tryz.func57,Tryz.ntmps57
  go_wp2_with fail
  refine i.out.mono ?_;rintro e s ⟨rfl,g⟩;have j:=Lib.hid g;clear g;go_wp2_with fail
  exact ⟨.string (bs X.2),by simp [results,Tryz.results57,go_sem],rfl,j.out⟩
 ·have i:=Lib.hid (m.out q.out);clear k l m n o p e r;go_enter_defers Tryz.func57,Tryz.ntmps57
  go_wp2_with fail
  refine i.out.mono ?_;rintro e s ⟨rfl,g⟩;have j:=Lib.hid g;clear g;go_wp2_with fail
  exact ⟨.string (bs X.2),by simp [results,Tryz.results57,go_sem],rfl,j.out⟩
 ·have i:=Lib.hid (n.out q.out);clear k l m n o p e r;go_enter_defers Tryz.func57,Tryz.ntmps57
  go_wp2_with fail
  refine i.out.mono ?_;rintro e s ⟨rfl,g⟩;have j:=Lib.hid g;clear g;go_wp2_with fail
  exact ⟨.string (bs X.2),by simp [results,Tryz.results57,go_sem],rfl,j.out⟩
 ·have i:=Lib.hid (o.out q.out);clear k l m n o p e r;go_enter_defers Tryz.func57,Tryz.ntmps57
  go_wp2_with fail
  refine i.out.mono ?_;rintro e s ⟨rfl,g⟩;have j:=Lib.hid g;clear g;go_wp2_with fail
  exact ⟨.string (bs X.2),by simp [results,Tryz.results57,go_sem],rfl,j.out⟩
 ·have i:=Lib.hid (p.out q.out);clear k l m n o p e r;go_enter_defers Tryz.func57,Tryz.ntmps57
  go_wp2_with fail
  refine i.out.mono ?_;rintro e s ⟨rfl,g⟩;have j:=Lib.hid g;clear g;go_wp2_with fail
  exact ⟨.string (bs X.2),by simp [results,Tryz.results57,go_sem],rfl,j.out⟩
theorem Fu [K:Kn] {d:Nat} {q:Nat→Nat} {g:Value} {S:aa} {b:List UInt8} {i:List Int} {m:Value} {n:Int} (h:np w tb ch pp pb d q g va vu vl frm body cap S b t i m n) (c:t.said=6) (a:Nat) (p:a≤100000):
  Calls Tryz.prog 57 #[.pointer (some ⟨tb,0,none⟩),.int .i64 (a:Int)] w fun e o=>e= .returned (.string ⟨#[]⟩)∧kN tb ch pp pb d q g va vu vl frm body S b t i w o:=by
 have k:w.cell? ⟨tb,6,none⟩=some (.int .i64 (t.said:Int)):=h.talk.cell 6;rw [c] at k;have j:=Lib.hid (fun u=>Ez u h);clear h c;go_enter_defers Tryz.func57,Tryz.ntmps57
 go_wp2_with fail
 refine leaves_cons (f:=46) (args:=#[.pointer (some ⟨tb,0,none⟩)]) (by simp) (by simp [go_sem]) ?_;refine (j.out .returning).mono ?_;rintro e u' r ⟨rfl,rfl,l⟩;exact ⟨.string ⟨#[]⟩,by simp [results,Tryz.results57,go_sem],rfl,l⟩
end
section
variable {E:Nat→Prop} {pp pb mb:Nat} {c:bT} {w w':World} {q:Nat→Nat} {vr:Value} {S:aa} {recs:List UInt8} {vs:Value} {l:List (Option dQ)}
theorem bJ.retalk [K:Kn] (h:bJ E pp pb mb c w q vr S recs vs l) (v:Value):@bJ (Kn.mk K.D0 K.n0 v) E pp pb mb c (w.setCell ⟨pp,11,none⟩ v) q vr S recs vs l∧(∀k,dP (w.setCell ⟨pp,11,none⟩ v) pb mb q vr S vs l k→dP w pb mb q vr S vs l k)∧aF (fun k=>k=pp) w (w.setCell ⟨pp,11,none⟩ v):=by
 have s:aH pp w (w.setCell ⟨pp,11,none⟩ v):=(aH.refl _ _).setCell _;have a:aF (fun k=>k=pp) w (w.setCell ⟨pp,11,none⟩ v):=aF.same s;obtain ⟨H,I,J,L,b,f⟩:=h.post.set;obtain ⟨D,F,G⟩:=b.blk;obtain ⟨C,d,t,u,A,M⟩:=h.post.blk;have m:D=C:=by rw [F] at d;injection d with d;injection d
 subst m;have p:=heap_setCell_same w pp 11 _ _ v d;obtain ⟨i,j⟩:=h.post.bag.chg a (fun k e x=>h.post.eb pp h.post.epp (by rw [←x];exact e));have B:∀k,vs.ownBlock=some k→¬k=pp:=fun k e x=>(h.post.sd k e).1 (by rw [x];exact h.post.epp);refine ⟨@bJ.mk (Kn.mk K.D0 K.n0 v) _ _ _ _ _ _ _ _ _ _ _ _ (@dG.mk (Kn.mk K.D0 K.n0 v) _ _ _ _ _ _ _ _ _ _ _ _ ⟨H,I,J,L,⟨⟨_,p,?_⟩,⟨b.rows.1.chg a (fun g e=>(f g (.inl e)).2),b.rows.2.1.chg a (fun g e=>(f g (.inr (.inl e))).2),b.rows.2.2.1.chg a (fun g e=>(f g (.inr (.inr (.inl e)))).2),b.rows.2.2.2.chg a (fun g e=>(f g (.inr (.inr (.inr e)))).2)⟩,b.may⟩,f⟩ (h.post.glo.chg a (fun k e x=>h.post.gpp (by rw [←x];exact e))) h.post.egl h.post.gpp h.post.epp (fun k e=>Nat.lt_of_lt_of_le (h.post.lt k e) a.size) ⟨_,p,by simpa using t,by rw [Array.getElem?_setIfInBounds_ne (by decide)];exact u,by rw [Array.getElem?_setIfInBounds_ne (by decide)];exact A,by rw [Array.getElem?_setIfInBounds_self_of_lt (by omega)];rfl⟩ (@eJ.mk (Kn.mk K.D0 K.n0 v) _ _ _ _ _ _ _ i.inn i.row i.due i.kn) (br h.post.row a B) (fun k e x=>h.post.eb k e (j k x)) (fun g e=>⟨(h.post.sd g e).1,fun x=>(h.post.sd g e).2 (j g x)⟩)) (fun n x e=>?_) h.apart h.len h.keep,fun k e=>e.imp (j k) id,a⟩
 ·rw [Array.toList_setIfInBounds,List.take_set_of_le (by decide)];exact G
 ·have o:=h.ok n x e;have r:∀k,x.own k→¬k=pp:=fun k y z=>o.fe k y (by rw [z];exact h.post.epp);exact qi.mk (o.ses.chg a (fun k y=>r k (.inl y))) (br o.row a (fun k y=>r k (.inr y))) o.inv o.fe (fun k y z=>o.fb k y (j k z)) o.fs o.fw
structure ia where
 tb:Nat
 ch:Nat
 va:Value
 vu:Value
 vl:Value
 t:aP
def ia.own (x:ia) (k:Nat):Prop:=kK x.tb x.ch x.va x.vl k
structure gM [K:Kn] (E:Nat→Prop) (pp pb mb:Nat) (w:World) (q:Nat→Nat) (vr:Value) (S:aa) (vs:Value) (l:List (Option dQ)) (x:ia):Prop where
 tk:K.tk= .pointer (some ⟨x.tb,0,none⟩)
 at_:bM w x.tb x.ch pp pb x.va x.vu x.vl (S.mailOf x.t.i).frm (S.mailOf x.t.i).body (S.stayOf x.t.i).length false x.t
 live:x.t.i∈S.live
 ok:dL (S.stayOf x.t.i) x.t
 due:(bQ S x.t.i).1≤S.time
 fe:∀k,x.own k→¬E k
 fm:∀k,x.own k→¬dP w pb mb q vr S vs l k
def lT [Kn] (S:aa):Prop:=∀i∈S.live,0≤(bQ S i).2∧(bQ S i).2≤(bQ S i).1∧(bQ S i).1≤10000000000
theorem gM.endIn [K:Kn] {x:ia} (a:bJ E pp pb mb c w q vr S recs vs l) (h:gM E pp pb mb w q vr S vs l x) (p:lT S):∃o n,np w x.tb x.ch pp pb mb q vr x.va x.vu x.vl (S.mailOf x.t.i).frm (S.mailOf x.t.i).body (S.stayOf x.t.i).length S recs x.t c.waits o n:=by
 obtain ⟨t,u,v,o,j,s⟩:=a.post.set;obtain ⟨m,b⟩:=a.post.glo.len;have f:=p _ h.live;have d:∀k,E k→k < w.heap.size∧¬an w pb mb q vr S k∧¬kK x.tb x.ch x.va x.vl k:=fun k e=>⟨a.post.lt k e,a.post.eb k e,fun y=>h.fe k y e⟩
 have i:1≤c.waits.length∧c.waits.length≤100∧∀x∈c.waits,1≤x∧x≤1000000000:=by
  have b:=j.may;unfold iL at b;simp only [Bool.and_eq_true] at b;obtain ⟨⟨⟨_,g⟩,_⟩,_⟩:=b;unfold j9 cd at g;simp only [Bool.and_eq_true,decide_eq_true_eq,List.all_eq_true] at g;refine ⟨by omega,by omega,fun x r=>?_⟩
  have:=g.2 x r;simpa using this
 refine ⟨o,m,⟨h.at_,a.post.bag,a.sok,h.live,h.ok,⟨f.1,by omega⟩,j.cell 6 (by decide),j.rows.2.2.2,i,b,fun k e x=>h.fm k e (.inl x),fun k e=>?_⟩⟩
 rcases e with e | e | e
 ·rw [e];exact d pp a.post.epp
 ·rw [e];exact d _ (a.post.egl _ (.inl rfl))
 ·exact d k (s k (.inr (.inr (.inr e)))).1
end
theorem kV (pp d:Nat) (b:Bool) (u:FrameMode) (w:World) (i:w.cell? ⟨pp,11,none⟩=some (.pointer (some ⟨d,0,none⟩))) (h:w.frozen? ⟨pp,11,none⟩=false) (a:w.cell? ⟨d,10,none⟩=some (.bool b)):
  CallsD Tryz.prog 45 #[.pointer (some ⟨pp,0,none⟩)] u w fun e u' f=>u'=u∧e= .returned (.tuple #[])∧f=if b then w.setCell ⟨pp,11,none⟩ (.pointer none) else w:=by
 have g:=Lib.hid (yc d b w a);go_enter_d Tryz.func45,Tryz.ntmps45
 go_wp2_with fail
 refine g.out.mono ?_;rintro e f ⟨rfl,rfl⟩
 cases b with
 | true=>
  go_wp2_with fail
  go_end0
  exact ⟨rfl,rfl⟩
 | false=>
  go_wp2_with fail
  go_end0
  exact ⟨rfl,rfl⟩
section
variable {E:Nat→Prop} {pp pb mb:Nat} {c:bT} {w:World} {q:Nat→Nat} {vr:Value} {S:aa} {recs:List UInt8} {vs:Value} {l:List (Option dQ)}
theorem np.left [K:Kn] {r g:Nat} {u z v:Value} {f a:List UInt8} {e:Nat} {t:aP} {A:List Int} {s:Value} {n:Int} (h:np w r g pp pb mb q vr u z v f a e S recs t A s n):∃y,Left (S,recs) y t.i (t.took true)∧Left y (cQ S recs t) t.i (t.took false):=by
 have d:∀b,∀p∈t.took b,p∈(S.stayOf t.i).map (·.1):=fun b p k=>h.ok.sub p (by unfold aP.act;exact List.mem_append.2 (.inr (wu k)));have B:(S.stayOf t.i).length≤10:=dp h.sok.ok t.i;obtain ⟨_,m,_,o,_⟩:=qG (x:=(S,recs)) (gs:=t.took true) (fs:=t.took false) h.sok h.live (by have:=tV h.ok true;omega) (by have:=tV h.ok false;omega) (mW (mJ h.ok _)) (d _) (d _) (fun p i j=>tU h.ok i j);exact ⟨_,m,o⟩
theorem bJ.c11 [K:Kn] (h:bJ E pp pb mb c w q vr S recs vs l):w.cell? ⟨pp,11,none⟩=some K.tk∧w.frozen? ⟨pp,11,none⟩=false:=⟨h.post.cell11,h.post.froz 11⟩
def rQ [K:Kn] (E:Nat→Prop) (pp pb mb:Nat) (c:bT) (w:World) (q:Nat→Nat) (vr:Value) (S:aa) (recs:List UInt8) (vs:Value) (l:List (Option dQ)) (x:ia) (w':World):Prop:=
 ∃q' vr',@bJ (Kn.mk (il K (cQ S recs x.t).1 x.t.i (mz S x.t c.waits)).D0 (cQ S recs x.t).1.items.length (.pointer none)) E pp pb mb c w' q' vr' (cQ S recs x.t).1 (cQ S recs x.t).2 vs l∧(∀k,dP w' pb mb q' vr' (cQ S recs x.t).1 vs l k→dP w pb mb q vr S vs l k∨w.heap.size≤k)∧aF (fun k=>k=pp∨x.own k∨dP w pb mb q vr S vs l k) w w'
theorem rQ.of [K:Kn] {x:ia} {w1:World} (a:bJ E pp pb mb c w q vr S recs vs l) (h:gM E pp pb mb w q vr S vs l x) (m:lT S) (o:kN x.tb x.ch pp pb mb q vr x.va x.vu x.vl (S.mailOf x.t.i).frm (S.mailOf x.t.i).body S recs x.t c.waits w w1):
  w1.cell? ⟨pp,11,none⟩=some (.pointer (some ⟨x.tb,0,none⟩))∧w1.frozen? ⟨pp,11,none⟩=false∧w1.cell? ⟨x.tb,10,none⟩=some (.bool true)∧rQ E pp pb mb c w q vr S recs vs l x (w1.setCell ⟨pp,11,none⟩ (.pointer none)):=by
 obtain ⟨F,n,p⟩:=h.endIn a m;obtain ⟨y,_,r⟩:=p.left;obtain ⟨D,⟨u,f,j,s⟩,g⟩:=o;obtain ⟨i,t⟩:=bJ.bagged (D':=(il K (cQ S recs x.t).1 x.t.i (mz S x.t c.waits)).D0) (n':=(cQ S recs x.t).1.items.length) a j g (fun k e z=>z.elim (fun z=>h.fe k z e) (fun z=>a.post.eb k e z)) (fun k e z=>z.elim (fun z=>h.fm k z (.inr (.inl e))) (fun z=>(a.post.sd k e).2 z)) (fun n y e k z v=>v.elim (fun v=>h.fm k v (.inr (.inr ⟨n,y,e,z⟩))) (fun v=>(a.ok n y e).fb k z v)) s r.ok;obtain ⟨b,d⟩:=bJ.c11 (K:=(Kn.mk (il K (cQ S recs x.t).1 x.t.i (mz S x.t c.waits)).D0 (cQ S recs x.t).1.items.length K.tk)) i;obtain ⟨A,B,C⟩:=bJ.retalk (K:=(Kn.mk (il K (cQ S recs x.t).1 x.t.i (mz S x.t c.waits)).D0 (cQ S recs x.t).1.items.length K.tk)) i (.pointer none);refine ⟨b.trans (by show some K.tk=_;rw [h.tk]),d,by rw [Lib.cell_of_heap D];rfl,u,f,A,fun k e=>t k (B k e),(g.mono (fun k _ e=>e.elim (fun e=> .inr (.inl e)) (fun e=> .inr (.inr (.inl e))))).trans C (fun k _ e=> .inl e)⟩
theorem zl [K:Kn] (h:bJ E pp pb mb c w q vr S recs vs l) (b:K.tk= .pointer none):
  Calls Tryz.prog 21 #[.pointer (some ⟨pp,0,none⟩)] w fun e d=>e= .returned (.int .i64 5)∧w=d:=by
 have a:=h.post.cell11;rw [b] at a;clear h;go_enter_defers Tryz.func21,Tryz.ntmps21
 go_wp2_with fail
 exact ⟨.int .i64 5,by simp [results,Tryz.results21,go_sem],rfl,rfl⟩
theorem Iu [K:Kn] {x:ia} (d:bJ E pp pb mb c w q vr S recs vs l) (h:gM E pp pb mb w q vr S vs l x) (i:lT S):
  Calls Tryz.prog 21 #[.pointer (some ⟨pp,0,none⟩)] w fun e y=>e= .returned (.int .i64 0)∧rQ E pp pb mb c w q vr S recs vs l x y:=by
 have g:=d.post.cell11;rw [h.tk] at g;obtain ⟨z,n,k⟩:=h.endIn d i;have o:=Lib.hid (Al k);have r:Hid (∀a,kN x.tb x.ch pp pb mb q vr x.va x.vu x.vl (S.mailOf x.t.i).frm (S.mailOf x.t.i).body S recs x.t c.waits w a→_):=Lib.hid (fun a b=>rQ.of d h i b);clear k h d i;go_enter_defers Tryz.func21,Tryz.ntmps21
 go_wp2_with fail
 refine o.out.mono ?_;rintro e a ⟨rfl,b⟩;obtain ⟨s,t,v,j⟩:=r.out a b;have m:=Lib.hid j;have p:=Lib.hid (fun u=>kV pp x.tb true u a s t v);clear b j;go_wp2_with fail
 refine leaves_cons (f:=45) (args:=#[.pointer (some ⟨pp,0,none⟩)]) (by simp) (by simp [go_sem]) ?_;refine (p.out .returning).mono ?_;rintro e u' A ⟨rfl,rfl,rfl⟩;exact ⟨.int .i64 0,by simp [results,Tryz.results21,go_sem],rfl,m.out⟩
end
section
variable {E:Nat→Prop} {pp pb mb:Nat} {c:bT} {w:World} {q:Nat→Nat} {vr:Value} {S:aa} {recs:List UInt8} {vs:Value} {l:List (Option dQ)}
theorem uh [K:Kn] (h:bJ E pp pb mb c w q vr S recs vs l) (d:K.tk= .pointer none) (a:Int):
  Calls Tryz.prog 33 #[.pointer (some ⟨pp,0,none⟩),.int .i64 a] w fun e f=>e= .returned (.tuple #[.string ⟨#[]⟩,.int .i64 5])∧w=f:=by
 have b:=h.post.cell11;rw [d] at b;clear h;go_enter_defers Tryz.func33,Tryz.ntmps33
 go_wp2_with fail
 exact ⟨.tuple #[.string ⟨#[]⟩,.int .i64 5],by simp [results,Tryz.results33,go_sem],rfl,rfl⟩
theorem wJ [K:Kn] {x:ia} (g:bJ E pp pb mb c w q vr S recs vs l) (h:gM E pp pb mb w q vr S vs l x) (j:lT S) (A:x.t.said=6) (a:Nat) (z:200≤a∧a≤599):
  Calls Tryz.prog 33 #[.pointer (some ⟨pp,0,none⟩),.int .i64 (a:Int)] w fun e B=>e= .returned (.tuple #[.string ⟨#[]⟩,.int .i64 0])∧rQ E pp pb mb c w q vr S recs vs l x B:=by
 have i:=g.post.cell11;rw [h.tk] at i;obtain ⟨F,n,m⟩:=h.endIn g j;have p:=Lib.hid (Fu m A a (by omega));have s:Hid (∀b,kN x.tb x.ch pp pb mb q vr x.va x.vu x.vl (S.mailOf x.t.i).frm (S.mailOf x.t.i).body S recs x.t c.waits w b→_):=Lib.hid (fun b d=>rQ.of g h j d);have C:¬(a:Int) < 200:=by omega
 have D:¬(599:Int) < (a:Int):=by omega
 clear m h g j z;go_enter_defers Tryz.func33,Tryz.ntmps33
 go_wp2_with fail
 refine p.out.mono ?_;rintro e b ⟨rfl,d⟩;obtain ⟨t,v,y,k⟩:=s.out b d;have o:=Lib.hid k;have r:=Lib.hid (fun u=>kV pp x.tb true u b t v y);clear d k;go_wp2_with fail
 refine leaves_cons (f:=45) (args:=#[.pointer (some ⟨pp,0,none⟩)]) (by simp) (by simp [go_sem]) ?_;refine (r.out .returning).mono ?_;rintro e u' G ⟨rfl,rfl,rfl⟩;exact ⟨.tuple #[.string ⟨#[]⟩,.int .i64 0],by simp [results,Tryz.results33,go_sem],rfl,o.out⟩
def GH [K:Kn] (E:Nat→Prop) (pp pb mb:Nat) (c:bT) (w:World) (q:Nat→Nat) (vr:Value) (S:aa) (recs:List UInt8) (vs:Value) (l:List (Option dQ)) (x:ia) (t':aP) (w':World):Prop:=
 ∃x':ia,x'.t=t'∧bJ E pp pb mb c w' q vr S recs vs l∧gM E pp pb mb w' q vr S vs l x'∧(∀k,dP w' pb mb q vr S vs l k→dP w pb mb q vr S vs l k)∧(∀k,x'.own k→x.own k∨w.heap.size≤k)∧aF x.own w w'
theorem gM.hearOk [K:Kn] {x:ia} (a:bJ E pp pb mb c w q vr S recs vs l) (h:gM E pp pb mb w q vr S vs l x) (i:x.t.said≠6):EN w pp (S.stayOf x.t.i).length (cL c) (S.mailOf x.t.i).frm (S.mailOf x.t.i).body (lM (S.mailOf x.t.i).body) x.t:=by
 obtain ⟨r,s,t,u,e,p⟩:=a.post.set;obtain ⟨m,f⟩:=a.post.glo.len;have d:=bm h.live;have b:dq (S.mailOf x.t.i):=by rw [bR d];exact (a.keep.2.2.sz _ (List.getElem_mem d)).1
 have n:=zp e.may;have g:=h.ok.room;rw [kQ i,List.length_append,List.length_map,List.length_map,List.length_append] at g;have o:=dp a.keep.2.2 x.t.i;refine ⟨by rw [rz];exact e.cell 0 (by decide),by omega,by have:=b.2.2.1;omega,Aa _ b.2.2.2.2.2,yg _ m w f b.2.2.2.2.2,fun y k=>?_,⟨by omega,by omega⟩,⟨by omega,by omega⟩,h.ok.una⟩
 have:=h.ok.mem y (List.mem_append.2 (.inl k));unfold aa.stayOf stay at this;obtain ⟨j,_,rfl⟩:=List.mem_map.1 this;have:=mP b.2.2.2.2.1 j;show ((S.mailOf x.t.i).tos.getD j []).length≤1000;omega
theorem GH.of [K:Kn] {x:ia} {y:aP×List UInt8} {e:Ending} {w1:World} (j:bJ E pp pb mb c w q vr S recs vs l) (h:gM E pp pb mb w q vr S vs l x) (d:y.1.i=x.t.i) (i:dL (S.stayOf x.t.i) y.1) (r:fF x.tb x.ch pp pb x.va x.vl (S.mailOf x.t.i).frm (S.mailOf x.t.i).body (S.stayOf x.t.i).length w y e w1):
  w1.cell? ⟨pp,11,none⟩=some (.pointer (some ⟨x.tb,0,none⟩))∧w1.frozen? ⟨pp,11,none⟩=false∧w1.cell? ⟨x.tb,10,none⟩=some (.bool false)∧GH E pp pb mb c w q vr S recs vs l x y.1 w1:=by
 obtain ⟨_,b,a,p,n,s⟩:=r;obtain ⟨o,m⟩:=j.chg n (fun k e z=>h.fe k z e) (fun k e z=>h.fm k z e);obtain ⟨f,g⟩:=o.c11
 have own:∀k,kK x.tb x.ch x.va a k→x.own k∨w.heap.size≤k:=fun k e=>by
  rcases e with e | e | e | e
  ·exact .inl (.inl e)
  ·exact .inl (.inr (.inl e))
  ·exact .inl (.inr (.inr (.inl e)))
  ·exact (s k e).imp (fun e=> .inr (.inr (.inr e))) id
 refine ⟨f.trans (by rw [h.tk]),g,p.cell 10,⟨x.tb,x.ch,x.va,b,a,y.1⟩,rfl,o,⟨h.tk,?_,?_,?_,?_,fun k e z=>(own k e).elim (fun e=>h.fe k e z) (fun e=>by have:=j.post.lt k z;omega),fun k e z=>(own k e).elim (fun e=>h.fm k e (m k z)) (fun e=>by have:=j.olt (m k z);omega)⟩,m,own,n⟩
 ·show bM w1 x.tb x.ch pp pb x.va b a (S.mailOf y.1.i).frm (S.mailOf y.1.i).body (S.stayOf y.1.i).length false y.1;rw [d];exact p
 ·show y.1.i∈S.live;rw [d];exact h.live
 ·show dL (S.stayOf y.1.i) y.1;rw [d];exact i
 ·show (bQ S y.1.i).1≤S.time;rw [d];exact h.due
theorem IT (t:aP):t.ask.1.i=t.i:=by
 unfold aP.ask
 split
 ·rfl
 ·split <;> rfl
theorem Iv (t:aP) (b e d:List UInt8) (a:Nat):(t.hear b e d a).1.i=t.i:=by
 unfold aP.hear
 repeat' split
 all_goals first | rfl | exact IT _
theorem EW [K:Kn] {x:ia} (g:bJ E pp pb mb c w q vr S recs vs l) (h:gM E pp pb mb w q vr S vs l x) (j:x.t.said≠6) (a:Nat) (y:200≤a∧a≤599):
  Calls Tryz.prog 33 #[.pointer (some ⟨pp,0,none⟩),.int .i64 (a:Int)] w fun e z=>e= .returned (.tuple #[.string (bs (x.t.hear (cL c) (S.mailOf x.t.i).frm (lM (S.mailOf x.t.i).body) (a / 100)).2),.int .i64 0])∧GH E pp pb mb c w q vr S recs vs l x (x.t.hear (cL c) (S.mailOf x.t.i).frm (lM (S.mailOf x.t.i).body) (a / 100)).1 z:=by
 have i:=g.post.cell11;rw [h.tk] at i;have k:=Lib.hid (Iw h.at_ (cL c) (lM (S.mailOf x.t.i).body) (h.hearOk g j) (by have:=h.ok.said;omega) a (by omega));have m:Hid (∀e b,fF x.tb x.ch pp pb x.va x.vl (S.mailOf x.t.i).frm (S.mailOf x.t.i).body (S.stayOf x.t.i).length w (x.t.hear (cL c) (S.mailOf x.t.i).frm (lM (S.mailOf x.t.i).body) (a / 100)) e b→_):=Lib.hid (fun e b d=>GH.of g h (Iv _ _ _ _ _) (G4 h.ok j _ _ _ _) d);obtain ⟨Y,o⟩:∃Y,x.t.hear (cL c) (S.mailOf x.t.i).frm (lM (S.mailOf x.t.i).body) (a / 100)=Y:=⟨_,rfl⟩;rw [o] at k m ⊢;have A:¬(a:Int) < 200:=by omega
 have B:¬(599:Int) < (a:Int):=by omega
 clear h g j y o;go_enter_defers Tryz.func33,Tryz.ntmps33
 go_wp2_with fail
 refine k.out.mono ?_;intro e b d;obtain ⟨s,t,v,n⟩:=m.out e b d;have p:=Lib.hid n;obtain ⟨rfl,_⟩:=d;have r:=Lib.hid (fun u=>kV pp x.tb false u b s t v);clear n;go_wp2_with fail
 refine leaves_cons (f:=45) (args:=#[.pointer (some ⟨pp,0,none⟩)]) (by simp) (by simp [go_sem]) ?_;refine (r.out .returning).mono ?_;rintro e u' C ⟨rfl,rfl,rfl⟩;exact ⟨.tuple #[.string (bs Y.2),.int .i64 0],by simp [results,Tryz.results33,go_sem],rfl,p.out⟩
end
structure ou (S S':aa):Prop where
 len:S.items.length≤S'.items.length
 time:S'.time=S.time
 mail:∀j,j < S.items.length→S'.mailOf j=S.mailOf j
 stay:∀j,j < S.items.length→S'.stayOf j=S.stayOf j
 new:∀j,S.items.length≤j→j < S'.items.length→(S'.mailOf j).time=S.time
theorem ou.refl (S:aa):ou S S:=⟨Nat.le_refl _,rfl,fun _ _=>rfl,fun _ _=>rfl,fun j a b=>by omega⟩
theorem ou.trans {S S' b:aa} (h:ou S S') (a:ou S' b):ou S b:=
 ⟨Nat.le_trans h.len a.len,a.time.trans h.time,fun j c=>(a.mail j (Nat.lt_of_lt_of_le c h.len)).trans (h.mail j c),fun j c=>(a.stay j (Nat.lt_of_lt_of_le c h.len)).trans (h.stay j c),fun j e f=>by
  by_cases d:j < S'.items.length
  ·rw [a.mail j d];exact h.new j e d
  ·exact (a.new j (by omega) f).trans h.time⟩
theorem ou.plus (S:aa) (m:aR) (b:m.time=S.time):ou S (S.plus m):=
 ⟨by rw [dz];omega,b,fun j a=>jw a,fun j a=>jx a,fun j d c=>by
  rw [dz] at c;obtain rfl:j=S.items.length:=by omega
  rw [fD];exact b⟩
theorem sI (c:bT) (s:bA) (S:aa) (a b:List UInt8) (d:Bool):ou S (aO c s S a b d).2.1:=by
 unfold aO
 split
 ·split
  ·unfold dr lQ
   split
   ·split
    ·exact ou.refl _
    ·split
     ·exact ou.refl _
     ·split
      ·exact ou.plus S _ rfl
      ·exact ou.refl _
   ·exact ou.refl _
  ·exact ou.refl _
 ·exact ou.refl _
theorem Ex (c:bT) (x:bA×aa×List UInt8×List UInt8) (b:UInt8):ou x.2.1 (gC c x b).2.1:=by
 unfold gC
 split
 ·exact ou.refl _
 ·split
  ·exact ou.refl _
  ·exact sI _ _ _ _ _ _
theorem vH (c:bT):∀(a:List UInt8) (x:bA×aa×List UInt8×List UInt8),ou x.2.1 (cH c x a).2.1
 | [],_=>ou.refl _
 | b::r,x=>(Ex c x b).trans (vH c r (gC c x b))
section
variable {S S':aa}
theorem ou.due [Kn] (h:ou S S') {i:Nat} (a:i < S.items.length):bQ S' i=bQ S i:=by unfold bQ;rw [h.mail i a]
theorem ou.live (h:ou S S') {i:Nat} (a:i < S.items.length):i∈S'.live ↔ i∈S.live:=by
 rw [ju,ju,h.stay i a];have:=h.len;exact ⟨fun x=>⟨a,x.2⟩,fun x=>⟨by omega,x.2⟩⟩
theorem lT.kin [Kn] (h:lT S) (a:ou S S') (f:Kn.n0≤S.items.length) (d:S.time≤1000000000):lT S':=fun i b=>by
 by_cases c:i < S.items.length
 ·rw [a.due c];exact h i ((a.live c).1 b)
 ·have e:bQ S' i=((S.time:Int),0):=by
   unfold bQ;rw [if_neg (by omega),a.new i (by omega) (bm b)]
  rw [e];show (0:Int)≤0∧(0:Int)≤(S.time:Int)∧(S.time:Int)≤10000000000;omega
end
section
variable [K:Kn] {E B:Nat→Prop} {pp pb mb:Nat} {w w':World} {q q':Nat→Nat} {vr vr':Value} {S S':aa} {vs vs':Value} {l l':List (Option dQ)} {x:ia}
theorem gM.kin (h:gM E pp pb mb w q vr S vs l x) (a:ou S S') (d:aF B w w') (c:∀k,x.own k→¬B k) (f:∀k,dP w' pb mb q' vr' S' vs' l' k→dP w pb mb q vr S vs l k∨w.heap.size≤k):gM E pp pb mb w' q' vr' S' vs' l' x:=by
 have b:=bm h.live;refine ⟨h.tk,?_,(a.live b).2 h.live,by rw [a.stay _ b];exact h.ok,by rw [a.due b,a.time];exact h.due,h.fe,fun k e z=>(f k z).elim (h.fm k e) (fun z=>by have:=h.at_.lt e;omega)⟩
 rw [a.mail _ b,a.stay _ b];exact h.at_.chg d c
end
end Go.Proofs.YtofpegbpgkkgkaaGreatDoor
