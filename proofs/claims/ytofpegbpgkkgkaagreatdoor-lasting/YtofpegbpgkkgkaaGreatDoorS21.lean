import Derived.Test.YtofpegbpgkkgkaaGreatDoorS19
import Derived.Test.YtofpegbpgkkgkaaGreatDoorS20
namespace Go.Proofs.YtofpegbpgkkgkaaGreatDoor
set_option maxHeartbeats 8000000
set_option maxRecDepth 1000000
open Go.RowKit
section
variable {E:Nat→Prop} {pp pb mb:Nat} {c:bX} {w:World} {q:Nat→Nat} {vr:Value} {S:aa} {recs:List UInt8} {vs:Value} {l:List (Option eH)}
theorem Ay [K:Kn] (h:bQ E pp pb mb c w q vr S recs vs l) (d:Nat) (b:K.tk= .pointer (some ⟨d,0,none⟩)):
  Calls Tryz.prog 22 #[.pointer (some ⟨pp,0,none⟩)] w fun e f=>e= .returned (.tuple #[.int .i64 0,.int .i64 6])∧w=f:=by
 have a:=h.post.cell11;rw [b] at a;clear h;go_enter Tryz.func22,Tryz.ntmps22;go_wp2_with fail
 go_ret2
 exact ⟨rfl,rfl⟩
def jM (S:aa) (i:Nat):aQ:=⟨i,0,S.stayOf i,[],[]⟩
theorem uL (S:aa) (i:Nat):dC (S.stayOf i) (jM S i):=by
 have e:(jM S i).act=(S.stayOf i).map (·.1):=by
  rw [lG (by show 0≠6;omega)];simp [jM]
 refine ⟨by show 0≤6;omega,(fun h=>by cases h),?_,fun x d=>by rw [e] at d;exact d,by rw [e,List.length_map];exact Nat.le_refl _,fun x d=>by simpa [jM] using d⟩
 rw [e];exact (rX _ _).imp fun {a b} h=>by omega
def D3 [K:Kn] (E:Nat→Prop) (pp pb mb:Nat) (c:bX) (w:World) (q:Nat→Nat) (vr:Value) (S:aa) (recs:List UInt8) (vs:Value) (l:List (Option eH)) (e:Ending) (w':World):Prop:=
 ((∀i∈S.live,(S.time:Int) < (bV S i).1)∧e= .returned (.tuple #[.int .i64 0,.int .i64 5])∧Below w.heap.size w w')∨
 ∃(i:Nat) (x:iJ),i∈S.live∧x.t=jM S i∧e= .returned (.tuple #[.int .i64 ((i:Int)+1),.int .i64 0])∧@bQ (Kn.mk K.D0 K.n0 (.pointer (some ⟨x.tb,0,none⟩))) E pp pb mb c w' q vr S recs vs l∧@hY (Kn.mk K.D0 K.n0 (.pointer (some ⟨x.tb,0,none⟩))) E pp pb mb w' q vr S vs l x∧(∀k,ee w' pb mb q vr S vs l k→ee w pb mb q vr S vs l k)∧(∀k,x.own k→w.heap.size≤k)∧aH (fun k=>k=pp) w w'
theorem D3.of [K:Kn] {i a f B:Nat} {va:Value} {w1 g:World} (d:bQ E pp pb mb c w q vr S recs vs l) (h:i∈S.live) (r:(bV S i).1≤S.time) (C:w.heap.size≤B) (v:w1.ownsRow B 162 2 va (S.stayOf i).length (aR (S.stayOf i))) (b:Below w.heap.size w g) (t:w.heap.size≤w1.heap.size) (o:bR g a f pp pb va va (.slice none 0 0) (S.mailOf i).frm (S.mailOf i).body (S.stayOf i).length false (jM S i)) (u:w1.heap.size≤a) (p:w1.heap.size≤f):
  D3 E pp pb mb c w q vr S recs vs l (.returned (.tuple #[.int .i64 ((i:Int)+1),.int .i64 0])) (g.setCell ⟨pp,11,none⟩ (.pointer (some ⟨a,0,none⟩))):=by
 obtain ⟨x,j⟩:=d.below b;obtain ⟨y,m,n⟩:=x.retalk (.pointer (some ⟨a,0,none⟩))
 have own:∀k,lA a f va (.slice none 0 0) k→w.heap.size≤k:=fun k e=>by
  rcases e with e | e | e | e
  ·omega
  ·omega
  ·have:=(v.lt k e).1;omega
  ·cases e
 have s:=d.post.lt pp d.post.epp;refine .inr ⟨i,⟨a,f,va,va,.slice none 0 0,jM S i⟩,h,rfl,rfl,y,@hY.mk (Kn.mk K.D0 K.n0 (.pointer (some ⟨a,0,none⟩))) _ _ _ _ _ _ _ _ _ _ _ rfl (o.chg n (fun k e A=>by have:=own k e;omega)) h (uL S i) r (fun k e z=>by have:=own k e;have:=d.post.lt k z;omega) (fun k e z=>by have:=own k e;have:=d.olt (j k (m k z));omega),fun k e=>j k (m k e),own,(aH.below b:aH (fun k=>k=pp) w g).trans n (fun _ _ e=>e)⟩
theorem JW [K:Kn] (f:bQ E pp pb mb c w q vr S recs vs l) (ht:K.tk= .pointer none):
  Calls Tryz.prog 22 #[.pointer (some ⟨pp,0,none⟩)] w (D3 E pp pb mb c w q vr S recs vs l):=by
 have Q:=f.post.cell11;rw [ht] at Q;have c9:=f.post.cell9;have T:=f.keep.2.1.items;have HL:=Lib.hid (Bb 0 pb mb q vr S (bV S) w f.post.bag.inn f.post.bag.due f.keep.2.2 (by omega));have Z:=Lib.hid f;have a3:pp < w.heap.size:=f.post.lt pp f.post.epp
 have r:Hid (∀W:World,Below w.heap.size w W→W.cell? ⟨pp,11,none⟩=some (.pointer none)∧W.frozen? ⟨pp,11,none⟩=false∧W.cell? ⟨pp,9,none⟩=some (.pointer (some ⟨pb,0,none⟩))):=Lib.hid (fun W hb=>by
  obtain ⟨X,_⟩:=f.below hb;have a:=X.post.cell11;rw [ht] at a
  exact ⟨a,X.post.froz 11,X.post.cell9⟩)
 clear f T;go_enter Tryz.func22,Tryz.ntmps22;go_wp2_with fail
 refine HL.out.mono ?_;rintro e d ⟨t,U⟩;have y:=Lib.hid t;have C:w.heap.size≤d.heap.size:=t.size;clear t
 rcases U with ⟨i,hi,hd,a,x,rfl,hv⟩ | ⟨A,rfl⟩
 ·obtain ⟨b,o⟩:∃b:World,d.alloc (.cells #[.int .i64 ((i:Int)+1),.string (bs (S.mailOf i).frm),.slice a (S.stayOf i).length x,.string (bs (S.mailOf i).body)] 104)=b:=⟨_,rfl⟩;have G:Below d.heap.size d b:=by rw [←o];exact (Below.refl _ _).alloc (Nat.le_refl _) _
  have s:b.heap[d.heap.size]? =some (.cells #[.int .i64 ((i:Int)+1),.string (bs (S.mailOf i).frm),.slice a (S.stayOf i).length x,.string (bs (S.mailOf i).body)] 104 (0,0)):=by rw [←o];exact heap_alloc_new d _
  have m0:b.drew.cell? ⟨d.heap.size,0,none⟩=some (.int .i64 ((i:Int)+1)):=by show b.cell? _=_;rw [Lib.cell_of_heap s];rfl
  have m1:b.drew.cell? ⟨d.heap.size,1,none⟩=some (.string (bs (S.mailOf i).frm)):=by show b.cell? _=_;rw [Lib.cell_of_heap s];rfl
  have m2:b.drew.cell? ⟨d.heap.size,2,none⟩=some (.slice a (S.stayOf i).length x):=by show b.cell? _=_;rw [Lib.cell_of_heap s];rfl
  have m3:b.drew.cell? ⟨d.heap.size,3,none⟩=some (.string (bs (S.mailOf i).body)):=by show b.cell? _=_;rw [Lib.cell_of_heap s];rfl
  have v:b.drew.ownsRow w.heap.size 162 2 (.slice a (S.stayOf i).length x) (S.stayOf i).length (aR (S.stayOf i)):=aA hv fun _ _ e _=>ae G e;have a4:=dk Z.out.keep.2.2 i;have g:=Lib.hid (xk pp pb i w.heap.size (S.mailOf i).frm (S.mailOf i).body (.slice a (S.stayOf i).length x) (S.stayOf i) b.drew v (by omega));have F:Below w.heap.size w b.drew:=(y.out.trans (G.mono C)).drew;obtain ⟨_,_,d9⟩:=r.out b.drew F;have z:=Lib.hid F;have j:=Lib.hid s;have h:=Lib.hid o;have O:=Lib.hid v;have u:w.heap.size≤b.drew.heap.size:=F.size;have a0:d.heap.size < b.drew.heap.size:=ah s;clear G s o hv v F;obtain ⟨fr,m⟩:∃fr,(S.mailOf i).frm=fr:=⟨_,rfl⟩;obtain ⟨bo,k⟩:∃bo,(S.mailOf i).body=bo:=⟨_,rfl⟩;obtain ⟨ln,n⟩:∃ln,(S.stayOf i).length=ln:=⟨_,rfl⟩;rw [m] at m1 g h j;rw [k] at m3 g h j;rw [n] at m2 g h j;have J:=Lib.hid m;have I:=Lib.hid k;have L:=Lib.hid n;rw [m,k,n];clear m k n;go_wp2_with fail
  rw [h.out];go_wp2_with fail
  go_region_law (first
   | (go_simp;go_at_call 48;refine g.out.mono ?_;rintro e Y ⟨tb,ch,rfl,D,V,R,p⟩;obtain ⟨a1,a2,_⟩:=r.out Y (z.out.trans (p.mono u));have x3:=ae p j.out;have N:=Lib.hid D;have H:=Lib.hid (z.out.trans (p.mono u));have P:=Lib.hid x3;clear D p x3;dsimp only))
  all_goals
   have HF:=Lib.hid (D3.of (B:=w.heap.size) (w1:=b.drew) (va:= .slice a (S.stayOf i).length x) Z.out hi hd (Nat.le_refl _) O.out H.out u (by rw [J.out,I.out,L.out];exact N.out) V R)
   have y0:(Y.setCell ⟨pp,11,none⟩ (.pointer (some ⟨tb,0,none⟩))).cell? ⟨d.heap.size,0,none⟩=some (.int .i64 ((i:Int)+1)):=by
    rw [Lib.cell_of_heap (aP ((aL.refl pp Y).setCell _) P.out (by omega))];rfl
   go_wp2_with fail
   go_ret2
   exact HF.out
 ·have M:=Lib.hid A;clear A;go_wp2_with fail
  go_ret2
  exact .inl ⟨M.out,rfl,y.out.alloc C _⟩
end
section
variable {E:Nat→Prop} {pp pb mb:Nat} {c:bX} {w:World} {q:Nat→Nat} {vr:Value} {S:aa} {recs:List UInt8} {vs:Value} {l:List (Option eH)}
theorem wq [K:Kn] (h:bQ E pp pb mb c w q vr S recs vs l) (d:K.tk= .pointer none) (a:Int):
  Calls Tryz.prog 33 #[.pointer (some ⟨pp,0,none⟩),.int .i64 a] w fun e f=>e= .returned (.tuple #[.string ⟨#[]⟩,.int .i64 5])∧w=f:=by
 have b:=h.post.cell11;rw [d] at b;clear h;go_enter_defers Tryz.func33,Tryz.ntmps33
 go_wp2_with fail
 exact ⟨.tuple #[.string ⟨#[]⟩,.int .i64 5],by simp [results,Tryz.results33,go_sem],rfl,rfl⟩
theorem yy [K:Kn] {x:iJ} (g:bQ E pp pb mb c w q vr S recs vs l) (h:hY E pp pb mb w q vr S vs l x) (j:mJ S) (A:x.t.said=6) (a:Nat) (z:200≤a∧a≤599):
  Calls Tryz.prog 33 #[.pointer (some ⟨pp,0,none⟩),.int .i64 (a:Int)] w fun e B=>e= .returned (.tuple #[.string ⟨#[]⟩,.int .i64 0])∧tv E pp pb mb c w q vr S recs vs l x B:=by
 have i:=g.post.cell11;rw [h.tk] at i;obtain ⟨F,n,m⟩:=h.endIn g j;have p:=Lib.hid (GX m A a (by omega));have s:Hid (∀b,lD x.tb x.ch pp pb mb q vr x.va x.vu x.vl (S.mailOf x.t.i).frm (S.mailOf x.t.i).body S recs x.t c.waits w b→_):=Lib.hid (fun b d=>tv.of g h j d);have C:¬(a:Int) < 200:=by omega
 have D:¬(599:Int) < (a:Int):=by omega
 clear m h g j z;go_enter_defers Tryz.func33,Tryz.ntmps33
 go_wp2_with fail
 refine p.out.mono ?_;rintro e b ⟨rfl,d⟩;obtain ⟨t,v,y,k⟩:=s.out b d;have o:=Lib.hid k;have r:=Lib.hid (fun u=>lM pp x.tb true u b t v y);clear d k;go_wp2_with fail
 refine leaves_cons (f:=45) (args:=#[.pointer (some ⟨pp,0,none⟩)]) (by simp) (by simp [go_sem]) ?_;refine (r.out .returning).mono ?_;rintro e u' G ⟨rfl,rfl,rfl⟩;exact ⟨.tuple #[.string ⟨#[]⟩,.int .i64 0],by simp [results,Tryz.results33,go_sem],rfl,o.out⟩
def IY [K:Kn] (E:Nat→Prop) (pp pb mb:Nat) (c:bX) (w:World) (q:Nat→Nat) (vr:Value) (S:aa) (recs:List UInt8) (vs:Value) (l:List (Option eH)) (x:iJ) (t':aQ) (w':World):Prop:=
 ∃x':iJ,x'.t=t'∧bQ E pp pb mb c w' q vr S recs vs l∧hY E pp pb mb w' q vr S vs l x'∧(∀k,ee w' pb mb q vr S vs l k→ee w pb mb q vr S vs l k)∧(∀k,x'.own k→x.own k∨w.heap.size≤k)∧aH x.own w w'
theorem hY.hearOk [K:Kn] {x:iJ} (a:bQ E pp pb mb c w q vr S recs vs l) (h:hY E pp pb mb w q vr S vs l x) (i:x.t.said≠6):Gg w pp (S.stayOf x.t.i).length (cQ c) (S.mailOf x.t.i).frm (S.mailOf x.t.i).body (mD (S.mailOf x.t.i).body) x.t:=by
 obtain ⟨r,s,t,u,e,p⟩:=a.post.set;obtain ⟨m,f⟩:=a.post.glo.len;have d:=bq h.live;have b:dQ (S.mailOf x.t.i):=by rw [cd d];exact (a.keep.2.2.sz _ (List.getElem_mem d)).1
 have n:=AN e.may;have g:=h.ok.room;rw [lG i,List.length_append,List.length_map,List.length_map,List.length_append] at g;have o:=dk a.keep.2.2 x.t.i;refine ⟨by rw [sT];exact e.cell 0 (by decide),by omega,by have:=b.2.2.1;omega,BH _ b.2.2.2.2.2,zH _ m w f b.2.2.2.2.2,fun y k=>?_,⟨by omega,by omega⟩,⟨by omega,by omega⟩,h.ok.una⟩
 have:=h.ok.mem y (List.mem_append.2 (.inl k));unfold aa.stayOf stay at this;obtain ⟨j,_,rfl⟩:=List.mem_map.1 this;have:=nQ b.2.2.2.2.1 j;show ((S.mailOf x.t.i).tos.getD j []).length≤1000;omega
theorem IY.of [K:Kn] {x:iJ} {y:aQ×List UInt8} {e:Ending} {w1:World} (j:bQ E pp pb mb c w q vr S recs vs l) (h:hY E pp pb mb w q vr S vs l x) (d:y.1.i=x.t.i) (i:dC (S.stayOf x.t.i) y.1) (r:fQ x.tb x.ch pp pb x.va x.vl (S.mailOf x.t.i).frm (S.mailOf x.t.i).body (S.stayOf x.t.i).length w y e w1):
  w1.cell? ⟨pp,11,none⟩=some (.pointer (some ⟨x.tb,0,none⟩))∧w1.frozen? ⟨pp,11,none⟩=false∧w1.cell? ⟨x.tb,10,none⟩=some (.bool false)∧IY E pp pb mb c w q vr S recs vs l x y.1 w1:=by
 obtain ⟨_,b,a,p,n,s⟩:=r;obtain ⟨o,m⟩:=j.chg n (fun k e z=>h.fe k z e) (fun k e z=>h.fm k z e);obtain ⟨f,g⟩:=o.c11
 have own:∀k,lA x.tb x.ch x.va a k→x.own k∨w.heap.size≤k:=fun k e=>by
  rcases e with e | e | e | e
  ·exact .inl (.inl e)
  ·exact .inl (.inr (.inl e))
  ·exact .inl (.inr (.inr (.inl e)))
  ·exact (s k e).imp (fun e=> .inr (.inr (.inr e))) id
 refine ⟨f.trans (by rw [h.tk]),g,p.cell 10,⟨x.tb,x.ch,x.va,b,a,y.1⟩,rfl,o,⟨h.tk,?_,?_,?_,?_,fun k e z=>(own k e).elim (fun e=>h.fe k e z) (fun e=>by have:=j.post.lt k z;omega),fun k e z=>(own k e).elim (fun e=>h.fm k e (m k z)) (fun e=>by have:=j.olt (m k z);omega)⟩,m,own,n⟩
 ·show bR w1 x.tb x.ch pp pb x.va b a (S.mailOf y.1.i).frm (S.mailOf y.1.i).body (S.stayOf y.1.i).length false y.1;rw [d];exact p
 ·show y.1.i∈S.live;rw [d];exact h.live
 ·show dC (S.stayOf y.1.i) y.1;rw [d];exact i
 ·show (bV S y.1.i).1≤S.time;rw [d];exact h.due
theorem Kh (t:aQ):t.ask.1.i=t.i:=by
 unfold aQ.ask
 split
 ·rfl
 ·split <;> rfl
theorem GY (t:aQ) (b e d:List UInt8) (a:Nat):(t.hear b e d a).1.i=t.i:=by
 unfold aQ.hear
 repeat' split
 all_goals first | rfl | exact Kh _
theorem Gp [K:Kn] {x:iJ} (g:bQ E pp pb mb c w q vr S recs vs l) (h:hY E pp pb mb w q vr S vs l x) (j:x.t.said≠6) (a:Nat) (y:200≤a∧a≤599):
  Calls Tryz.prog 33 #[.pointer (some ⟨pp,0,none⟩),.int .i64 (a:Int)] w fun e z=>e= .returned (.tuple #[.string (bs (x.t.hear (cQ c) (S.mailOf x.t.i).frm (mD (S.mailOf x.t.i).body) (a / 100)).2),.int .i64 0])∧IY E pp pb mb c w q vr S recs vs l x (x.t.hear (cQ c) (S.mailOf x.t.i).frm (mD (S.mailOf x.t.i).body) (a / 100)).1 z:=by
 have i:=g.post.cell11;rw [h.tk] at i;have k:=Lib.hid (J1 h.at_ (cQ c) (mD (S.mailOf x.t.i).body) (h.hearOk g j) (by have:=h.ok.said;omega) a (by omega));have m:Hid (∀e b,fQ x.tb x.ch pp pb x.va x.vl (S.mailOf x.t.i).frm (S.mailOf x.t.i).body (S.stayOf x.t.i).length w (x.t.hear (cQ c) (S.mailOf x.t.i).frm (mD (S.mailOf x.t.i).body) (a / 100)) e b→_):=Lib.hid (fun e b d=>IY.of g h (GY _ _ _ _ _) (Ei h.ok j _ _ _ _) d);obtain ⟨Y,o⟩:∃Y,x.t.hear (cQ c) (S.mailOf x.t.i).frm (mD (S.mailOf x.t.i).body) (a / 100)=Y:=⟨_,rfl⟩;rw [o] at k m ⊢;have A:¬(a:Int) < 200:=by omega
 have B:¬(599:Int) < (a:Int):=by omega
 clear h g j y o;go_enter_defers Tryz.func33,Tryz.ntmps33
 go_wp2_with fail
 refine k.out.mono ?_;intro e b d;obtain ⟨s,t,v,n⟩:=m.out e b d;have p:=Lib.hid n;obtain ⟨rfl,_⟩:=d;have r:=Lib.hid (fun u=>lM pp x.tb false u b s t v);clear n;go_wp2_with fail
 refine leaves_cons (f:=45) (args:=#[.pointer (some ⟨pp,0,none⟩)]) (by simp) (by simp [go_sem]) ?_;refine (r.out .returning).mono ?_;rintro e u' C ⟨rfl,rfl,rfl⟩;exact ⟨.tuple #[.string (bs Y.2),.int .i64 0],by simp [results,Tryz.results33,go_sem],rfl,p.out⟩
end
def Kt (K:Kn) (E:Nat→Prop) (pp pb mb:Nat) (w:World) (q:Nat→Nat) (vr:Value) (S:aa) (vs:Value) (L:List (Option eH)):Option iJ→Prop
 | none=>K.tk= .pointer none
 | some x=>@hY K E pp pb mb w q vr S vs L x
def r7:Option iJ→Nat→Prop
 | none,_=>False
 | some x,k=>x.own k
def iC (E own:Nat→Prop) (pp:Nat) (c:bX) (w:World) (S:aa) (recs:List UInt8) (l:List (Option bG)) (tk:Option aQ) (d:Nat→Int×Int):Prop:=
 ∃(K:Kn) (pb mb:Nat) (q:Nat→Nat) (vr vs:Value) (L:List (Option eH)) (xo:Option iJ),@bQ K E pp pb mb c w q vr S recs vs L∧Kt K E pp pb mb w q vr S vs L xo∧@mJ K S∧L.map (Option.map (·.s))=l∧xo.map (·.t)=tk∧(∀i∈S.live,@bV K S i=d i)∧(∀k,ee w pb mb q vr S vs L k∨r7 xo k→own k)∧∀k,own k→k < w.heap.size∧¬E k
def oS (S S':aa) (d:Nat→Int×Int) (i:Nat):Int×Int:=if i < S.items.length then d i else (((S'.mailOf i).time:Int),0)
def mr (E own:Nat→Prop) (pp:Nat) (c:bX) (w:World) (S:aa) (recs:List UInt8) (l:List (Option bG)) (tk:Option aQ) (d:Nat→Int×Int) (w':World):Prop:=
 ∃own',iC E own' pp c w' S recs l tk d∧(∀k,own' k→own k∨w.heap.size≤k)∧aH (fun k=>k=pp∨own k) w w'
theorem zw {L:List (Option eH)} {n:Nat} {s:bG} (h:(L.map (Option.map (·.s)))[n]? =some (some s)):∃x,L[n]? =some (some x)∧x.s=s:=by
 rw [List.getElem?_map] at h
 cases e:L[n]? with
 | none=>rw [e] at h;cases h
 | some o=>
  rw [e] at h
  cases o with
  | none=>cases h
  | some x=>exact ⟨x,rfl,by simpa using h⟩
theorem nz (K:Kn) {E:Nat→Prop} {pp b a:Nat} {c:bX} {w:World} {q:Nat→Nat} {f:Value} {S:aa} {recs:List UInt8} {g:Value} {L:List (Option eH)} (h:@bQ K E pp b a c w q f S recs g L) {k:Nat} (e:ee w b a q f S g L k):k < w.heap.size∧¬E k:=⟨h.olt e,fun z=>h.eo z e⟩
theorem DV (K:Kn) {E:Nat→Prop} {pp b a:Nat} {w:World} {q:Nat→Nat} {f:Value} {S:aa} {g:Value} {L:List (Option eH)} {x:iJ} (h:@hY K E pp b a w q f S g L x):(∀k,x.own k→k < w.heap.size∧¬E k)∧(bV S x.t.i).1≤S.time:=⟨fun k e=>⟨bR.lt h.at_ e,h.fe k e⟩,h.due⟩
section
variable {E own B:Nat→Prop} {pp:Nat} {c:bX} {w w':World} {S:aa} {recs:List UInt8} {l:List (Option bG)} {tk:Option aQ} {d:Nat→Int×Int}
theorem iC.lt (h:iC E own pp c w S recs l tk d) {k:Nat} (e:own k):k < w.heap.size:=by
 obtain ⟨K,p,o,q,r,s,L,t,b,f,g,i,j,m,n,a⟩:=h;exact (a k e).1
theorem iC.off (h:iC E own pp c w S recs l tk d) {k:Nat} (e:own k):¬E k:=by
 obtain ⟨K,p,o,q,r,s,L,t,b,f,g,i,j,m,n,a⟩:=h;exact (a k e).2
theorem iC.elt (h:iC E own pp c w S recs l tk d) {k:Nat} (e:E k):k < w.heap.size:=by
 obtain ⟨K,p,o,q,r,s,L,t,a,b,f,g,i,j,m,n⟩:=h;exact @dR.lt K _ _ _ _ _ _ _ _ _ _ _ _ a.post k e
theorem iC.epp (h:iC E own pp c w S recs l tk d):E pp:=by
 obtain ⟨K,n,m,q,o,p,L,r,a,b,e,f,g,i,j,k⟩:=h;exact a.post.epp
theorem iC.glo (h:iC E own pp c w S recs l tk d):iR w:=by
 obtain ⟨K,n,m,q,o,p,L,r,a,b,e,f,g,i,j,k⟩:=h;exact a.post.glo
theorem iC.may (h:iC E own pp c w S recs l tk d):ij c=true:=by
 obtain ⟨K,o,n,q,v,x,L,y,a,e,f,g,i,j,k,m⟩:=h;obtain ⟨r,s,t,u,b,p⟩:=a.post.set;exact b.may
theorem iC.len (h:iC E own pp c w S recs l tk d):l.length≤100:=by
 obtain ⟨K,n,m,q,o,p,L,r,a,e,f,b,g,i,j,k⟩:=h;rw [←b,List.length_map];exact a.len
theorem iC.sok (h:iC E own pp c w S recs l tk d):oK (S,recs):=by
 obtain ⟨K,n,m,q,o,p,L,r,a,b,e,f,g,i,j,k⟩:=h;exact a.sok
theorem iC.inv (h:iC E own pp c w S recs l tk d) {n:Nat} {s:bG} (a:l[n]? =some (some s)):gM c s S recs:=by
 obtain ⟨K,r,p,q,t,u,L,v,b,g,i,e,j,k,m,o⟩:=h;rw [←e] at a;obtain ⟨x,f,rfl⟩:=zw a;exact (b.ok n x f).inv
theorem iC.talk {t:aQ} (h:iC E own pp c w S recs l (some t) d):t.i∈S.live∧dC (S.stayOf t.i) t∧(d t.i).1≤S.time:=by
 obtain ⟨K,p,o,q,r,s,L,g,i,a,j,k,b,f,m,n⟩:=h
 cases g with
 | none=>cases b
 | some x=>
  have e:x.t=t:=by simpa using b
  subst e;exact ⟨a.live,a.ok,by rw [←f _ a.live];exact a.due⟩
theorem iC.laters (h:iC E own pp c w S recs l tk d):(∀T,S.time≤T∧T≤1000000000→iB S (dw c.life (⟨S.items,T⟩,recs) S.live).1∧(dw c.life (⟨S.items,T⟩,recs) S.live).1.time=T)∧∀t,tk=some t→iB S (cV S recs t).1∧(cV S recs t).1.time=S.time:=by
 obtain ⟨K,y,v,q,z,A,L,o,b,g,f,p,a,r,s,u⟩:=h;refine ⟨fun T i=>?_,fun t e=>?_⟩
 ·obtain ⟨m,_,_,n⟩:=yk b f T i.2;exact ⟨m,n⟩
 ·rw [e] at a
  cases o with
  | none=>cases a
  | some x=>
   have e:x.t=t:=by simpa using a
   subst e;obtain ⟨j,_,k⟩:=o9 b g f;exact ⟨j,k⟩
theorem iC.chg (h:iC E own pp c w S recs l tk d) (b:aH B w w') (t:∀k,E k→¬B k) (i:∀k,own k→¬B k):iC E own pp c w' S recs l tk d:=by
 obtain ⟨K,y,u,q,z,A,L,m,n,f,o,p,r,s,a,g⟩:=h;obtain ⟨v,j⟩:=n.chg b t (fun k e=>i k (a k (.inl e)));refine ⟨K,y,u,q,z,A,L,m,v,?_,o,p,r,s,fun k e=>a k (e.imp (j k) id),fun k e=>⟨Nat.lt_of_lt_of_le (g k e).1 b.size,(g k e).2⟩⟩
 cases m with
 | none=>exact f
 | some x=>exact hY.kin f (oj.refl S) b (fun k e=>i k (a k (.inr e))) (fun k e=> .inl (j k e))
theorem iC.below (h:iC E own pp c w S recs l tk d) (a:Below w.heap.size w w'):iC E own pp c w' S recs l tk d:=h.chg (aH.below a:aH (fun _=>False) w w') (fun _ _ e=>e) (fun _ _ e=>e)
theorem iC.recv (h:iC E own pp c w S recs l tk d) (n:Nat) {s:bG} (J:l[n]? =some (some s)) (a:List UInt8) (u:a.length≤1048576):
  Calls Tryz.prog 14 #[.pointer (some ⟨pp,0,none⟩),.int .i64 (n:Int),.string (bs a)] w fun e w'=>e= .returned (.tuple #[.string (bs (cL c (s,S,recs,[]) a).2.2.2),.int .i64 0])∧mr E own pp c w (cL c (s,S,recs,[]) a).2.1 (cL c (s,S,recs,[]) a).2.2.1 (l.set n (if (cL c (s,S,recs,[]) a).1.over then none else some (cL c (s,S,recs,[]) a).1)) tk (oS S (cL c (s,S,recs,[]) a).2.1 d) w':=by
 have f:=h.may;obtain ⟨K,F,D,q,X,G,L,j,r,m,P,I,Q,R,o,T⟩:=h;rw [←I] at J;obtain ⟨x,V,rfl⟩:=zw J;have b:=xH c a (x.s,S,recs,[]);refine (FK r n V f a u).mono ?_;rintro e Y ⟨rfl,M,g,N,H,v,A,C⟩;obtain ⟨y,O⟩:∃y,cL c (x.s,S,recs,[]) a=y:=⟨_,rfl⟩;rw [O] at v A b ⊢
 have W:∀k,r7 j k→¬ee w F D q X S G L k:=fun k e=>by
  cases j with
  | none=>cases e
  | some z=>exact m.fm k e
 have t:=r.post.bag.kn;refine ⟨rfl,fun k=>ee Y F D M g y.2.1 G (L.set n (if y.1.over then none else some ⟨x.sb,x.ch,N,H,y.1⟩)) k∨r7 j k,⟨K,F,D,M,g,G,_,j,v,?_,P.kin b t r.keep.1,?_,Q,fun i U=>?_,fun k e=>e,fun k e=>?_⟩,fun k e=>?_,C.mono (fun k _ e=> .inr (o k (.inl e)))⟩
 ·cases j with
  | none=>exact m
  | some z=>exact hY.kin m b C (fun k e=>m.fm k e) A
 ·rw [List.map_set,I]
  congr 1
  cases y.1.over <;> rfl
 ·unfold oS
  by_cases p:i < S.items.length
  ·rw [if_pos p,b.due p];exact R i ((b.live p).1 U)
  ·rw [if_neg p];unfold bV;rw [if_neg (by omega)]
 ·rcases e with e | e
  ·exact nz _ v e
  ·have:=T k (o k (.inr e));exact ⟨Nat.lt_of_lt_of_le this.1 C.size,this.2⟩
 ·rcases e with e | e
  ·exact (A k e).imp (fun e=>o k (.inl e)) id
  ·exact .inl (o k (.inr e))
theorem iC.conn (h:iC E own pp c w S recs l tk d) (a:Int) (y:0≤a) (H:a≤4294967295) (I:l.length < 100):
  Calls Tryz.prog 13 #[.pointer (some ⟨pp,0,none⟩),.int .i64 a] w fun e w'=>e= .returned (.tuple #[.int .i64 (l.length:Int),.string (bs (mX c)),.int .i64 0])∧mr E own pp c w S recs (l++[some (dI c a)]) tk d w':=by
 obtain ⟨K,o,n,q,p,J,L,f,r,g,C,s,D,F,i,G⟩:=h;have b:L.length=l.length:=by rw [←s,List.length_map]
 refine (EI r a y H (by rw [b];exact I)).mono ?_;rintro e M ⟨rfl,vs',sb,v,A,t,u,m⟩;rw [b]
 have j:∀k,r7 f k→¬(k=pp∨ee w o n q p S J L k):=fun k e=>by
  cases f with
  | none=>cases e
  | some z=>exact fun x=>x.elim (fun x=>g.fe k e (by rw [x];exact r.post.epp)) (g.fm k e)
 refine ⟨rfl,fun k=>ee M o n q p S vs' (L++[some ⟨sb,v,A,.slice none 0 0,dI c a⟩]) k∨r7 f k,⟨K,o,n,q,p,vs',_,f,t,?_,C,?_,D,F,fun k e=>e,fun k e=>?_⟩,fun k e=>?_,m.mono (fun k _ e=>e.imp id (fun e=>i k (.inl e)))⟩
 ·cases f with
  | none=>exact g
  | some z=>exact hY.kin g (oj.refl S) m j u
 ·rw [List.map_append,s];rfl
 ·rcases e with e | e
  ·exact nz _ t e
  ·have:=G k (i k (.inr e));exact ⟨Nat.lt_of_lt_of_le this.1 m.size,this.2⟩
 ·rcases e with e | e
  ·exact (u k e).imp (fun e=>i k (.inl e)) id
  ·exact .inl (i k (.inr e))
theorem iC.connNo (h:iC E own pp c w S recs l tk d) (a:Int) (i:¬l.length < 100):
  Calls Tryz.prog 13 #[.pointer (some ⟨pp,0,none⟩),.int .i64 a] w fun e w'=>e= .returned (.tuple #[.int .i64 0,.string ⟨#[]⟩,.int .i64 3])∧w=w':=by
 obtain ⟨K,s,r,q,t,u,L,v,f,j,k,g,m,n,o,p⟩:=h;have b:L.length=l.length:=by rw [←g,List.length_map]
 exact yM f a (fun e=>i (by rw [←b];exact e.2.2))
theorem iC.close (h:iC E own pp c w S recs l tk d) (n:Nat) {s:bG} (t:l[n]? =some (some s)):
  Calls Tryz.prog 34 #[.pointer (some ⟨pp,0,none⟩),.int .i64 (n:Int)] w fun e w'=>e= .returned (.int .i64 0)∧mr E own pp c w S recs (l.set n none) tk d w':=by
 obtain ⟨K,m,j,q,o,p,L,a,y,f,A,r,C,D,b,F⟩:=h;rw [←r] at t;obtain ⟨x,G,rfl⟩:=zw t;refine (yK y n G).mono ?_;rintro e H ⟨rfl,u,v,i⟩
 have g:∀k,r7 a k→¬ee w m j q o S p L k:=fun k e=>by
  cases a with
  | none=>cases e
  | some z=>exact f.fm k e
 refine ⟨rfl,fun k=>ee H m j q o S p (L.set n none) k∨r7 a k,⟨K,m,j,q,o,p,_,a,u,?_,A,?_,C,D,fun k e=>e,fun k e=>?_⟩,fun k e=>?_,i.mono (fun k _ e=> .inr (b k (.inl e)))⟩
 ·cases a with
  | none=>exact f
  | some z=>exact hY.kin f (oj.refl S) i g (fun k e=> .inl (v k e))
 ·rw [List.map_set,r];rfl
 ·rcases e with e | e
  ·exact nz _ u e
  ·have:=F k (b k (.inr e));exact ⟨Nat.lt_of_lt_of_le this.1 i.size,this.2⟩
 ·rcases e with e | e
  ·exact .inl (b k (.inl (v k e)))
  ·exact .inl (b k (.inr e))
theorem iC.kept (h:iC E own pp c w S recs l tk d):Calls Tryz.prog 17 #[.pointer (some ⟨pp,0,none⟩)] w fun e w'=>e= .returned (.tuple #[.string (bs recs),.int .i64 0])∧w=w':=by
 obtain ⟨K,o,n,q,p,r,L,s,a,b,f,g,i,j,k,m⟩:=h;exact AR a.post
theorem iC.queue (h:iC E own pp c w S recs l tk d):Calls Tryz.prog 10 #[.pointer (some ⟨pp,0,none⟩)] w fun e w'=>∃v a,e= .returned (.tuple #[v,.int .i64 0])∧iT w.heap.size w' v a∧a.map (·.1)=gA S.items∧Below w.heap.size w w':=by
 obtain ⟨K,p,o,q,r,s,L,t,b,f,g,i,j,k,m,n⟩:=h;exact yd b.post b.keep.2.2 (by have:=b.keep.2.1.items;omega)
theorem iC.tickNo (h:iC E own pp c w S recs l tk d) (T:Int) (b:¬((S.time:Int)≤T∧T≤1000000000)):
  Calls Tryz.prog 23 #[.pointer (some ⟨pp,0,none⟩),.int .i64 T] w fun e w'=>e= .returned (.int .i64 3)∧w=w':=by
 obtain ⟨K,p,o,q,r,s,L,t,a,f,g,i,j,k,m,n⟩:=h;exact DU a T b
theorem iC.tickBusy {t:aQ} (h:iC E own pp c w S recs l (some t) d) (T:Int) (g:(S.time:Int)≤T∧T≤1000000000):
  Calls Tryz.prog 23 #[.pointer (some ⟨pp,0,none⟩),.int .i64 T] w fun e w'=>e= .returned (.int .i64 6)∧w=w':=by
 obtain ⟨K,r,p,q,s,u,L,i,a,b,j,k,f,m,n,o⟩:=h
 cases i with
 | none=>cases f
 | some x=>exact BU a T g x.tb b.tk
theorem iC.tick (h:iC E own pp c w S recs l none d) (T:Nat) (m:S.time≤T∧T≤1000000000):
  Calls Tryz.prog 23 #[.pointer (some ⟨pp,0,none⟩),.int .i64 (T:Int)] w fun e w'=>e= .returned (.int .i64 0)∧mr E own pp c w (dw c.life (⟨S.items,T⟩,recs) S.live).1 (dw c.life (⟨S.items,T⟩,recs) S.live).2 l none (oS S (dw c.life (⟨S.items,T⟩,recs) S.live).1 d) w':=by
 obtain ⟨K,p,o,q,O,t,L,I,f,g,u,v,y,z,j,J⟩:=h
 cases I with
 | some x=>cases y
 | none=>
  obtain ⟨s,G,M,N⟩:=yk f u T m.2;refine (J6 f T m g).mono ?_;rintro e H ⟨rfl,r,a,n,D,F⟩;have C:=f.post.bag.kn;refine ⟨rfl,ee H p o r a (dw c.life (⟨S.items,T⟩,recs) S.live).1 t L,⟨K,p,o,r,a,t,L,none,n,g,G,v,rfl,fun i A=>?_,fun k e=>e.elim id (fun e=>by cases e),fun k e=>nz _ n e⟩,fun k e=>(D k e).imp (fun e=>j k (.inl e)) id,F.mono (fun k _ e=> .inr (j k (.inl e)))⟩;unfold oS
  by_cases b:i < S.items.length
  ·rw [if_pos b,←z i (s.live A b)];unfold bV;rw [s.mail i b]
  ·rw [if_neg b];unfold bV;rw [if_neg (by omega)]
def Aw (S S':aa) (d:Nat→Int×Int) (t:aQ) (ws:List Int) (i:Nat):Int×Int:=if i=t.i then (S.time+kH ws (d t.i).2,(d t.i).2+1) else oS S S' d i
theorem iC.overTo {K:Kn} {b a:Nat} {q:Nat→Nat} {m f:Value} {L:List (Option eH)} {x:iJ} (n:@bQ K E pp b a c w q m S recs f L) (o:Kt K E pp b a w q m S f L (some x)) (p:@mJ K S) (z:L.map (Option.map (·.s))=l) (r:∀i∈S.live,@bV K S i=d i) (s:∀k,ee w b a q m S f L k∨r7 (some x) k→own k) (C:tv E pp b a c w q m S recs f L x w'):mr E own pp c w (cV S recs x.t).1 (cV S recs x.t).2 l none (Aw S (cV S recs x.t).1 d x.t c.waits) w':=by
 obtain ⟨y,g,u,D,F⟩:=C;obtain ⟨v,G,H⟩:=o9 n o p;have A:=n.post.bag.kn;refine ⟨ee w' b a y g (cV S recs x.t).1 f L,⟨_,b,a,y,g,f,L,none,u,rfl,FD n o p (.pointer none),z,rfl,fun i t=>?_,fun k e=>e.elim id (fun e=>by cases e),fun k e=>nz _ u e⟩,fun k e=>(D k e).imp (fun e=>s k (.inl e)) id,F.mono (fun k _ e=>e.imp id (fun e=>s k (e.elim .inr .inl)))⟩;have e:@bV (Kn.mk (iQ K (cV S recs x.t).1 x.t.i (nt S x.t c.waits)).D0 (cV S recs x.t).1.items.length (.pointer none)) (cV S recs x.t).1 i=if i=x.t.i then nt S x.t c.waits else bV (cV S recs x.t).1 i:=if_pos (bq t);rw [e];unfold Aw
 by_cases h:i=x.t.i
 ·rw [if_pos h,if_pos h];unfold nt;rw [r _ o.live]
 ·rw [if_neg h,if_neg h];unfold oS
  by_cases j:i < S.items.length
  ·rw [if_pos j,←r i (v.live t j)];unfold bV;rw [v.mail i j]
  ·rw [if_neg j];unfold bV;rw [if_neg (by omega)]
theorem iC.hangIdle (h:iC E own pp c w S recs l none d):Calls Tryz.prog 21 #[.pointer (some ⟨pp,0,none⟩)] w fun e w'=>e= .returned (.int .i64 5)∧w=w':=by
 obtain ⟨K,p,o,q,r,s,L,g,a,b,i,j,f,k,m,n⟩:=h
 cases g with
 | some x=>cases f
 | none=>exact AJ a b
theorem iC.hang {t:aQ} (h:iC E own pp c w S recs l (some t) d):Calls Tryz.prog 21 #[.pointer (some ⟨pp,0,none⟩)] w fun e w'=>e= .returned (.int .i64 0)∧mr E own pp c w (cV S recs t).1 (cV S recs t).2 l none (Aw S (cV S recs t).1 d t c.waits) w':=by
 obtain ⟨K,r,p,q,s,u,L,n,a,b,f,i,g,j,k,o⟩:=h
 cases n with
 | none=>cases g
 | some x=>
  have e:x.t=t:=by simpa using g
  subst e;refine (J0 a b f).mono ?_;rintro e v ⟨rfl,m⟩;exact ⟨rfl,iC.overTo a b f i j k m⟩
theorem iC.ansIdle (h:iC E own pp c w S recs l none d) (a:Int):Calls Tryz.prog 33 #[.pointer (some ⟨pp,0,none⟩),.int .i64 a] w fun e w'=>e= .returned (.tuple #[.string ⟨#[]⟩,.int .i64 5])∧w=w':=by
 obtain ⟨K,r,p,q,s,t,L,i,b,f,j,k,g,m,n,o⟩:=h
 cases i with
 | some x=>cases g
 | none=>exact wq b f a
theorem iC.ansEnd {t:aQ} (h:iC E own pp c w S recs l (some t) d) (p:t.said=6) (a:Nat) (n:200≤a∧a≤599):Calls Tryz.prog 33 #[.pointer (some ⟨pp,0,none⟩),.int .i64 (a:Int)] w fun e w'=>e= .returned (.tuple #[.string ⟨#[]⟩,.int .i64 0])∧mr E own pp c w (cV S recs t).1 (cV S recs t).2 l none (Aw S (cV S recs t).1 d t c.waits) w':=by
 obtain ⟨K,v,u,q,y,z,L,r,b,f,g,j,i,k,m,s⟩:=h
 cases r with
 | none=>cases i
 | some x=>
  have e:x.t=t:=by simpa using i
  subst e;refine (yy b f g p a n).mono ?_;rintro e A ⟨rfl,o⟩;exact ⟨rfl,iC.overTo b f g j k m o⟩
def Gn (c:bX) (S:aa) (t:aQ) (code:Nat):aQ×List UInt8:=t.hear (cQ c) (S.mailOf t.i).frm (mD (S.mailOf t.i).body) (code / 100)
theorem iC.ans {t:aQ} (h:iC E own pp c w S recs l (some t) d) (C:t.said≠6) (a:Nat) (A:200≤a∧a≤599):Calls Tryz.prog 33 #[.pointer (some ⟨pp,0,none⟩),.int .i64 (a:Int)] w fun e w'=>e= .returned (.tuple #[.string (bs (Gn c S t a).2),.int .i64 0])∧mr E own pp c w S recs l (some (Gn c S t a).1) d w':=by
 obtain ⟨K,m,j,q,n,o,L,I,s,u,v,y,f,z,b,J⟩:=h
 cases I with
 | none=>cases f
 | some x=>
  have e:x.t=t:=by simpa using f
  subst e;refine (Gp s u C a A).mono ?_;rintro e H ⟨rfl,p,r,g,i,D,F,G⟩;refine ⟨rfl,fun k=>ee H m j q n S o L k∨p.own k,⟨K,m,j,q,n,o,L,some p,g,i,v,y,congrArg some r,z,fun k e=>e,fun k e=>?_⟩,fun k e=>?_,G.mono (fun k _ e=> .inr (b k (.inr e)))⟩
  ·rcases e with e | e
   ·exact nz _ g e
   ·exact (DV _ i).1 k e
  ·rcases e with e | e
   ·exact .inl (b k (.inl (D k e)))
   ·exact (F k e).imp (fun e=>b k (.inr e)) id
theorem iC.dialBusy {t:aQ} (h:iC E own pp c w S recs l (some t) d):Calls Tryz.prog 22 #[.pointer (some ⟨pp,0,none⟩)] w fun e w'=>e= .returned (.tuple #[.int .i64 0,.int .i64 6])∧w=w':=by
 obtain ⟨K,p,o,q,r,s,L,g,a,b,i,j,f,k,m,n⟩:=h
 cases g with
 | none=>cases f
 | some x=>exact Ay a x.tb b.tk
theorem iC.dial (h:iC E own pp c w S recs l none d):Calls Tryz.prog 22 #[.pointer (some ⟨pp,0,none⟩)] w fun e w'=>((∀i∈S.live,(S.time:Int) < (d i).1)∧e= .returned (.tuple #[.int .i64 0,.int .i64 5])∧mr E own pp c w S recs l none d w')∨∃i,i∈S.live∧(d i).1≤S.time∧e= .returned (.tuple #[.int .i64 ((i:Int)+1),.int .i64 0])∧mr E own pp c w S recs l (some (jM S i)) d w':=by
 have u:=h;obtain ⟨K,r,p,q,s,t,L,M,v,y,z,A,C,g,D,N⟩:=h
 cases M with
 | some x=>cases C
 | none=>
  refine (JW v y).mono ?_;rintro e J (⟨a,b,f⟩ | ⟨i,x,a,b,f,o,m,G,H,I⟩)
  ·exact .inl ⟨fun i n=>by rw [←g i n];exact a i n,b,own,u.below f,fun k e=> .inl e,aH.below f⟩
  ·have F:∀j,@bV (Kn.mk K.D0 K.n0 (.pointer (some ⟨x.tb,0,none⟩))) S j=@bV K S j:=fun j=>rfl;refine .inr ⟨i,a,by have:=(DV _ m).2;rw [F,b] at this;rw [←g i a];exact this,f,fun k=>ee J r p q s S t L k∨x.own k,⟨_,r,p,q,s,t,L,some x,o,m,z,A,congrArg some b,g,fun k e=>e,fun k e=>?_⟩,fun k e=>?_,I.mono (fun k _ e=> .inl e)⟩
   ·rcases e with e | e
    ·exact nz _ o e
    ·exact (DV _ m).1 k e
   ·rcases e with e | e
    ·exact .inl (D k (.inl (G k e)))
    ·exact .inr (H k e)
end
structure GS where
 S:aa
 recs:List UInt8
 l:List (Option bG)
 tk:Option aQ
 d:Nat→Int×Int
 seats:List ca
 mails:List aX
 bad:Bool
def fI (c:bX) (g:GS) (n:Nat) (s:bG) (x:ca) (l:List UInt8):GS where
 S:=(aO c s g.S g.recs l false).2.1
 recs:=(aO c s g.S g.recs l false).2.2.1
 l:=g.l.set n (if (aO c s g.S g.recs l false).1.over then none else some (aO c s g.S g.recs l false).1)
 tk:=g.tk
 d:=oS g.S (aO c s g.S g.recs l false).2.1 g.d
 seats:=g.seats.set n (gH x l (aO c s g.S g.recs l false).2.2.2.flatten)
 mails:=g.mails++fL x l (aO c s g.S g.recs l false).2.2.2.flatten
 bad:=g.bad || dp x l (aO c s g.S g.recs l false).2.2.2.flatten
def Ee (c:bX) (g:GS) (addr:Int):GS:={g with l:=g.l++[some (dI c addr)],seats:=g.seats++[⟨addr,false,false,false,[]⟩]}
def yj (c:bX) (g:GS) (T:Nat):GS:={g with S:=(dw c.life (⟨g.S.items,T⟩,g.recs) g.S.live).1,recs:=(dw c.life (⟨g.S.items,T⟩,g.recs) g.S.live).2,d:=oS g.S (dw c.life (⟨g.S.items,T⟩,g.recs) g.S.live).1 g.d}
def Bt (c:bX) (g:GS) (t:aQ):GS:={g with S:=(cV g.S g.recs t).1,recs:=(cV g.S g.recs t).2,tk:=none,d:=Aw g.S (cV g.S g.recs t).1 g.d t c.waits}
def Cv (g:GS) (n:Nat) (x:ca):GS:={g with l:=g.l.set n none,seats:=g.seats.set n {x with closed:=true}}
inductive hU (c:bX):GS→GS→Prop
 | line (g:GS) (n:Nat) (s:bG) (x:ca) (l:List UInt8) (hl:l∈LL) (hs:g.l[n]? =some (some s)) (hx:g.seats[n]? =some x):hU c g (fI c g n s x l)
 | conn (g:GS) (addr:Int) (h0:0≤addr) (h1:addr < 1000) (hl:g.l.length < 100):hU c g (Ee c g addr)
 | tick (g:GS) (T:Nat) (hT:g.S.time≤T∧T≤1000000000) (ht:g.tk=none):hU c g (yj c g T)
 | dial (g:GS) (i:Nat) (hi:i∈g.S.live) (hd:(g.d i).1≤g.S.time) (ht:g.tk=none):hU c g {g with tk:=some (jM g.S i)}
 | ans (g:GS) (t:aQ) (code:Nat) (hc:200≤code∧code≤599) (hs:t.said≠6) (ht:g.tk=some t):hU c g {g with tk:=some (Gn c g.S t code).1}
 | over (g:GS) (t:aQ) (ht:g.tk=some t):hU c g (Bt c g t)
 | close (g:GS) (n:Nat) (s:bG) (x:ca) (hs:g.l[n]? =some (some s)) (hx:g.seats[n]? =some x):hU c g (Cv g n x)
inductive fy (c:bX):Nat→GS→GS→Prop
 | nil (g:GS):fy c 0 g g
 | snoc {k:Nat} {g g' g'':GS} (h:fy c k g g') (s:hU c g' g''):fy c (k+1) g g''
theorem fy.one {c:bX} {g g':GS} (h:hU c g g'):fy c 1 g g':= .snoc (.nil g) h
theorem fy.trans {c:bX} {k m:Nat} {g g' a:GS} (h:fy c k g g') (b:fy c m g' a):fy c (k+m) g a:=by
 induction b with
 | nil=>exact h
 | snoc _ s ih=>exact .snoc (ih h) s
structure dX (c:bX):Prop where
 doms:c.doms=na
 nets:c.nets=[(256,24)]
 may:ij c=true
structure hJ (g:GS):Prop where
 len:g.seats.length=g.l.length
 seat:∀(n:Nat) (x:ca) (o:Option bG),g.seats[n]? =some x→g.l[n]? =some o→fj x o
 bad:g.bad=false
 ids:∀m∈g.mails,m.id≤g.S.items.length
 tos:∀m∈g.mails,m.tos.length≤10
 more:g.mails.length≤g.S.items.length
 told:∀i,i < g.S.items.length→(∀m∈g.mails,m.id=i+1→∀t∈(g.S.mailOf i).tos,t∈m.tos)∧((∀m∈g.mails,m.id≠i+1)→xu (g.S.mailOf i))
theorem kQ {α:Type} {l:List α} {n m:Nat} {v y:α} (h:(l.set n v)[m]? =some y):(m=n∧v=y)∨(m≠n∧l[m]? =some y):=by
 by_cases e:n=m
 ·subst e
  by_cases a:n < l.length
  ·rw [List.getElem?_set_self a] at h;exact .inl ⟨rfl,by injection h⟩
  ·rw [List.getElem?_eq_none (by simp;omega)] at h
   cases h
 ·rw [List.getElem?_set_ne e] at h;exact .inr ⟨Ne.symm e,h⟩
theorem kU {α:Type} {l:List α} {v y:α} {n:Nat} (h:(l++[v])[n]? =some y):(n=l.length∧v=y)∨(n < l.length∧l[n]? =some y):=by
 by_cases a:n < l.length
 ·rw [List.getElem?_append_left a] at h;exact .inr ⟨a,h⟩
 ·rw [List.getElem?_append_right (by omega)] at h
  by_cases e:n - l.length=0
  ·rw [e] at h;exact .inl ⟨by omega,by injection h⟩
  ·rw [List.getElem?_eq_none (by simp;omega)] at h
   cases h
section
variable {c:bX} {g g':GS}
theorem hJ.later (h:hJ g) {f:aa} (j:iB g.S f) (a:List UInt8) (l:Option aQ) (n:Nat→Int×Int):hJ {g with S:=f,recs:=a,tk:=l,d:=n}:=by
 refine ⟨h.len,h.seat,h.bad,fun m k=>Nat.le_trans (h.ids m k) j.len,h.tos,Nat.le_trans h.more j.len,fun i o=>?_⟩
 by_cases b:i < g.S.items.length
 ·show (∀m∈g.mails,m.id=i+1→∀t∈(f.mailOf i).tos,t∈m.tos)∧((∀m∈g.mails,m.id≠i+1)→xu (f.mailOf i));rw [j.mail i b];exact h.told i b
 ·exact ⟨fun m k e=>by have:=h.ids m k;omega,fun _=>j.new i (by omega) o⟩
theorem Dk {c:bX} (a:c.nets=[(256,24)]) {addr:Int}:(dI c addr).nets=true→addr / 256=1:=by
 intro h;have h:c.nets.any (iZ addr)=true:=h;rw [a] at h;simp only [List.any_cons,List.any_nil,Bool.or_false] at h;unfold iZ at h;have h:=of_decide_eq_true h;have e:(2:Int) ^ ((32:Int) - 24).toNat=256:=by decide
 simp only [e] at h;omega
theorem Hy (e:dX c) {a:Int} (b:0≤a) (d:a < 1000):km ⟨a,false,false,false,[]⟩ (dI c a):=
 ⟨rfl,rfl,rfl,rfl,rfl,rfl,Dk e.nets,(fun t f=>by cases f),b,d⟩
theorem hJ.step (H:dX c) (h:hJ g) (J:hU c g g') (P:∀(n:Nat) (s:bG),g.l[n]? =some (some s)→gM c s g.S g.recs) (I:(∀T,g.S.time≤T∧T≤1000000000→iB g.S (dw c.life (⟨g.S.items,T⟩,g.recs) g.S.live).1)∧∀t,g.tk=some t→iB g.S (cV g.S g.recs t).1):hJ g':=by
 cases J with
 | line n s x l hll hsn hx=>
  have G:=h.seat n x _ hx hsn;obtain ⟨a,b,e⟩:=qR (S:=g.S) (recs:=g.recs) (pZ hll) H.doms G;have D:(fI c g n s x l).seats.length=(fI c g n s x l).l.length:=by show (g.seats.set ..).length=(g.l.set ..).length;rw [List.length_set,List.length_set];exact h.len
  have r:∀(m:Nat) (y:ca) (o:Option bG),(fI c g n s x l).seats[m]? =some y→(fI c g n s x l).l[m]? =some o→fj y o:=fun m y o A B=>by
   rcases kQ A with ⟨k,p⟩ | ⟨k,p⟩
   ·rcases kQ B with ⟨f,j⟩ | ⟨f,j⟩
    ·rw [←p,←j];exact a
    ·exact absurd k f
   ·rcases kQ B with ⟨f,j⟩ | ⟨f,j⟩
    ·exact absurd f k
    ·exact h.seat m y o p j
  have v:(fI c g n s x l).bad=false:=by show (g.bad || _)=false;rw [h.bad,b];rfl
  rcases e with ⟨k,f,M⟩ | ⟨t,b,k,f,M,R,N,O,U,V⟩
  ·have u:(fI c g n s x l).mails=g.mails:=by show g.mails++_=_;rw [k,List.append_nil]
   have w:(fI c g n s x l).S=g.S:=f;exact ⟨D,r,v,by rw [u,w];exact h.ids,by rw [u];exact h.tos,by rw [u,w];exact h.more,by rw [u,w];exact h.told⟩
  ·have u:(fI c g n s x l).mails=g.mails++[⟨g.S.items.length+1,0,[],t.tos,[]⟩]:=by show g.mails++_=_;rw [N]
   have w:(fI c g n s x l).S=g.S.plus (eJ g.S t.frm t.tos b.text):=O;have q:(g.S.plus (eJ g.S t.frm t.tos b.text)).items.length=g.S.items.length+1:=dv ..;have z:=((P n s hsn).tx t k).1.most;refine ⟨D,r,v,?_,?_,?_,?_⟩
   ·rw [u,w,q];intro m d
    rcases List.mem_append.1 d with d | d
    ·have:=h.ids m d;omega
    ·rw [List.mem_singleton.1 d];exact Nat.le_refl _
   ·rw [u];intro m d
    rcases List.mem_append.1 d with d | d
    ·exact h.tos m d
    ·rw [List.mem_singleton.1 d];exact z
   ·rw [u,w,q,List.length_append,List.length_singleton];have:=h.more;omega
   ·rw [u,w,q];intro i E
    by_cases C:i < g.S.items.length
    ·rw [je C];obtain ⟨K,L⟩:=h.told i C;refine ⟨fun m d e=>?_,fun F=>L fun m d=>F m (List.mem_append.2 (.inl d))⟩
     rcases List.mem_append.1 d with d | d
     ·exact K m d e
     ·rw [List.mem_singleton.1 d] at e;have e:g.S.items.length+1=i+1:=e;omega
    ·obtain rfl:i=g.S.items.length:=by omega
     rw [dN];refine ⟨fun m d e=>?_,fun F=>absurd rfl (F _ (List.mem_append.2 (.inr (List.mem_singleton.2 rfl))))⟩
     rcases List.mem_append.1 d with d | d
     ·have:=h.ids m d;omega
     ·rw [List.mem_singleton.1 d];exact fun y Q=>Q
 | conn addr h0 A hll=>
  refine ⟨by show (g.seats++[_]).length=(g.l++[_]).length;rw [List.length_append,List.length_append,h.len];rfl,fun m y o g1 g2=>?_,h.bad,h.ids,h.tos,h.more,h.told⟩
  rcases kU g1 with ⟨k,p⟩ | ⟨k,p⟩
  ·rcases kU g2 with ⟨f,j⟩ | ⟨f,j⟩
   ·rw [←p,←j];exact Hy H h0 A
   ·rw [h.len] at k;omega
  ·rcases kU g2 with ⟨f,j⟩ | ⟨f,j⟩
   ·rw [h.len] at k;omega
   ·exact h.seat m y o p j
 | tick T hT ht=>exact h.later (I.1 T hT) _ g.tk _
 | dial i E hd ht=>exact ⟨h.len,h.seat,h.bad,h.ids,h.tos,h.more,h.told⟩
 | ans t code hcc J ht=>exact ⟨h.len,h.seat,h.bad,h.ids,h.tos,h.more,h.told⟩
 | over t ht=>exact h.later (I.2 t ht) _ none _
 | close n s x hsn hx=>
  refine ⟨by show (g.seats.set ..).length=(g.l.set ..).length;rw [List.length_set,List.length_set];exact h.len,fun m y o A B=>?_,h.bad,h.ids,h.tos,h.more,h.told⟩
  rcases kQ A with ⟨k,p⟩ | ⟨k,p⟩
  ·rcases kQ B with ⟨f,j⟩ | ⟨f,j⟩
   ·rw [←p,←j];rfl
   ·exact absurd k f
  ·rcases kQ B with ⟨f,j⟩ | ⟨f,j⟩
   ·exact absurd f k
   ·exact h.seat m y o p j
end
def di (x:ca) (v:Value):List Value:=[.int .i64 x.addr,.bool x.known,.bool x.inside,.bool x.closed,v]
def gL (l:List (ca×Value)):List Value:=l.flatMap fun x=>di x.1 x.2
theorem DG (l:List (ca×Value)) (k i:Nat) (h:k < l.length) (b:i < 5):(gL l)[k * 5+i]? =(di l[k].1 l[k].2)[i]? :=by
 induction l generalizing k with
 | nil=>simp at h
 | cons x l ih=>
  show (di x.1 x.2++gL l)[k * 5+i]? =_;have a:(di x.1 x.2).length=5:=rfl
  cases k with
  | zero=>
   rw [List.getElem?_append_left (by rw [a];omega)];simp
  | succ k=>
   rw [List.getElem?_append_right (by rw [a];omega),a,show (k+1) * 5+i - 5=k * 5+i by omega]
   exact ih k (by simpa using h)
theorem zv (l:List (ca×Value)) (x:ca×Value):gL (l++[x])=gL l++di x.1 x.2:=by simp [gL]
theorem BG {l:List (ca×Value)} {k i:Nat} (h:k < l.length) (d:i < 5) {u:Value} {y:ca×Value} (b:di y.1 y.2=(di l[k].1 l[k].2).set i u):(gL l).set (k * 5+i) u=gL (l.set k y):=by
 induction l generalizing k with
 | nil=>simp at h
 | cons x l ih=>
  have a:(di x.1 x.2).length=5:=rfl
  cases k with
  | zero=>
   show (di x.1 x.2++gL l).set (0 * 5+i) u=di y.1 y.2++gL l;rw [b,List.set_append_left _ _ (by rw [a];omega)];simp
  | succ k=>
   show (di x.1 x.2++gL l).set ((k+1) * 5+i) u=di x.1 x.2++gL (l.set k y);rw [List.set_append_right _ _ (by rw [a];omega),a,show (k+1) * 5+i - 5=k * 5+i by omega,ih (by simpa using h) (by simpa using b)]
theorem Ik {w:World} {g a n f j:Nat} {t:TypeId} {x:Value} {i:List Value} (h:w.ownsRow 0 t f (.slice (some ⟨g,0,none⟩) n a) n i):(w.setCell ⟨g,j,none⟩ x).ownsRow 0 t f (.slice (some ⟨g,0,none⟩) n a) n (i.set j x):=by
 refine ⟨by rw [List.length_set];exact h.1,?_⟩
 rcases h.2 with ⟨e,_⟩ | ⟨r,q,b,e,k,l,m,o,p,d⟩
 ·cases e
 ·injection e with e1 _ e3;injection e1 with e1;injection e1 with e1;subst e1 e3;refine .inr ⟨g,a,b.setIfInBounds j x,rfl,k,heap_setCell_same w g j _ _ x l,m,o,by simp [p],?_⟩
  rw [Array.toList_setIfInBounds,List.take_set,d]
def fX (gb:Nat) (vS vM:Value) (k:Nat):Prop:=k=gb∨vS.ownBlock=some k∨vM.ownBlock=some k
structure iE (E own:Nat→Prop) (gb:Nat) (vS vM:Value) (w:World) (tos:List (List UInt8)) (v:Value):Prop where
 row:bg w v tos.length 1 (aB tos)
 off:∀k,v.ownBlock=some k→k < w.heap.size∧¬E k∧¬own k∧¬fX gb vS vM k
structure gX (E own:Nat→Prop) (pp gb:Nat) (c:bX) (w:World) (vS vM:Value) (sl:List (ca×Value)) (ml:List (aX×Value)) (g:GS):Prop where
 post:iC E own pp c w g.S g.recs g.l g.tk g.d
 blk:∃C:Array Value,w.heap[gb]? =some (.cells C 41 (0,0))∧C.size=14∧C[0]? =some (.pointer (some ⟨pp,0,none⟩))∧C[10]? =some vS∧C[11]? =some vM∧C[12]? =some (.int .i64 g.S.time)∧C[13]? =some (.bool g.bad)
 srow:w.ownsRow 0 51 5 vS sl.length (gL sl)
 mrow:w.ownsRow 0 45 5 vM ml.length (fJ ml)
 seq:sl.map (·.1)=g.seats
 meq:ml.map (·.1)=g.mails
 stos:∀x∈sl,iE E own gb vS vM w x.1.tos x.2
 mtos:∀x∈ml,iE E own gb vS vM w x.1.tos x.2
 off:∀k,fX gb vS vM k→k < w.heap.size∧¬E k∧¬own k
section
variable {E own own' B:Nat→Prop} {pp gb:Nat} {c:bX} {w w':World} {vS vM vS' vM':Value} {sl:List (ca×Value)} {ml:List (aX×Value)} {g:GS} {tos:List (List UInt8)} {v:Value}
theorem iE.chg (h:iE E own gb vS vM w tos v) (i:aH B w w') (j:∀k,v.ownBlock=some k→¬B k) (m:∀k,own' k→own k∨w.heap.size≤k) (l:∀k,fX gb vS' vM' k→fX gb vS vM k∨w.heap.size≤k):iE E own' gb vS' vM' w' tos v:=
 ⟨h.row.chg i j,fun k e=>by
  obtain ⟨a,b,d,f⟩:=h.off k e
  exact ⟨Nat.lt_of_lt_of_le a i.size,b,fun x=>(m k x).elim d (fun x=>by omega),fun x=>(l k x).elim f (fun x=>by omega)⟩⟩
theorem iE.nil (w:World):iE E own gb vS vM w [] (.slice none 0 0):=⟨aF (World.ownsRow_nil _ _ _ _:w.ownsRow 0 9 1 (.slice none 0 0) 0 []),fun k e=>by cases e⟩
theorem gX.tag (h:gX E own pp gb c w vS vM sl ml g):(∀k,vS.ownBlock=some k→k≠gb∧vM.ownBlock≠some k)∧∀k,vM.ownBlock=some k→k≠gb:=by
 obtain ⟨C,f,_⟩:=h.blk;refine ⟨fun k e=>?_,fun k e x=>?_⟩
 ·obtain ⟨d,a⟩:=dm h.srow e;refine ⟨fun x=>?_,fun x=>?_⟩
  ·rw [x,f] at a;injection a with a;injection a with _ a _;exact absurd a (by decide)
  ·obtain ⟨i,b⟩:=dm h.mrow x;rw [a] at b;injection b with b;injection b with _ b _;exact absurd b (by decide)
 ·obtain ⟨d,a⟩:=dm h.mrow e;rw [x,f] at a;injection a with a;injection a with _ a _;exact absurd a (by decide)
theorem gX.call (h:gX E own pp gb c w vS vM sl ml g) {m:aa} {b:List UInt8} {q:List (Option bG)} {j:Option aQ} {p:Nat→Int×Int} (u:mr E own pp c w m b q j p w') (y:m.time=g.S.time):∃own',gX E own' pp gb c w' vS vM sl ml {g with S:=m,recs:=b,l:=q,tk:=j,d:=p}∧(∀k,own' k→own k∨w.heap.size≤k)∧aH (fun k=>k=pp∨own k) w w':=by
 obtain ⟨own',z,o,i⟩:=u;have a:∀k,fX gb vS vM k→¬(k=pp∨own k):=fun k e x=>x.elim (fun x=>(h.off k e).2.1 (by rw [x];exact h.post.epp)) (h.off k e).2.2;have f:∀{tos:List (List UInt8)} {v:Value},iE E own gb vS vM w tos v→iE E own' gb vS vM w' tos v:=fun t=>t.chg i (fun k e x=>x.elim (fun x=>(t.off k e).2.1 (by rw [x];exact h.post.epp)) (t.off k e).2.2.1) o (fun k e=> .inl e);obtain ⟨C,r,s⟩:=h.blk;exact ⟨own',⟨z,⟨C,i.some_ r (a _ (.inl rfl)),by show _∧_∧_∧_∧C[12]? =some (.int .i64 m.time)∧_;rw [y];exact s⟩,bC h.srow i (fun k e=>a k (.inr (.inl e))),bC h.mrow i (fun k e=>a k (.inr (.inr e))),h.seq,h.meq,fun x n=>f (h.stos x n),fun x n=>f (h.mtos x n),fun k e=>⟨Nat.lt_of_lt_of_le (h.off k e).1 i.size,(h.off k e).2.1,fun x=>(o k x).elim (h.off k e).2.2 (fun x=>by have:=(h.off k e).1;omega)⟩⟩,o,i⟩
theorem gX.turn (h:gX E own pp gb c w vS vM sl ml g) (i:aH (fX gb vS vM) w w') {sl':List (ca×Value)} {ml':List (aX×Value)} {bad':Bool}
  (f:∃C:Array Value,w'.heap[gb]? =some (.cells C 41 (0,0))∧C.size=14∧C[0]? =some (.pointer (some ⟨pp,0,none⟩))∧C[10]? =some vS'∧C[11]? =some vM'∧C[12]? =some (.int .i64 g.S.time)∧C[13]? =some (.bool bad'))
  (l:w'.ownsRow 0 51 5 vS' sl'.length (gL sl')) (j:w'.ownsRow 0 45 5 vM' ml'.length (fJ ml')) (b:∀k,fX gb vS' vM' k→fX gb vS vM k∨w.heap.size≤k)
  (p:∀x∈sl',iE E own gb vS vM w x.1.tos x.2) (o:∀x∈ml',iE E own gb vS vM w x.1.tos x.2):gX E own pp gb c w' vS' vM' sl' ml' {g with seats:=sl'.map (·.1),mails:=ml'.map (·.1),bad:=bad'}:=by
 have m:∀{tos:List (List UInt8)} {v:Value},iE E own gb vS vM w tos v→iE E own gb vS' vM' w' tos v:=fun t=>t.chg i (fun k e=>(t.off k e).2.2.2) (fun k e=> .inl e) b
 have a:∀k,fX gb vS' vM' k→k < w'.heap.size:=fun k e=>by
  rcases e with e | e | e
  ·obtain ⟨C,n,_⟩:=f;rw [e];exact ah n
  ·exact (kD l e).2
  ·exact (kD j e).2
 exact ⟨h.post.chg i (fun k e x=>(h.off k x).2.1 e) (fun k e x=>(h.off k x).2.2 e),f,l,j,rfl,rfl,fun x d=>m (p x d),fun x d=>m (o x d),fun k e=>⟨a k e,(b k e).elim (fun x=>(h.off k x).2.1) (fun x y=>by have:=h.post.elt y;omega),(b k e).elim (fun x=>(h.off k x).2.2) (fun x y=>by have:=h.post.lt y;omega)⟩⟩
theorem gX.below (h:gX E own pp gb c w vS vM sl ml g) (a:Below w.heap.size w w'):gX E own pp gb c w' vS vM sl ml g:=by
 have b:aH (fun _=>False) w w':=aH.below a;have f:∀{tos:List (List UInt8)} {v:Value},iE E own gb vS vM w tos v→iE E own gb vS vM w' tos v:=fun t=>t.chg b (fun k e x=>x) (fun k e=> .inl e) (fun k e=> .inl e);obtain ⟨C,i,j⟩:=h.blk;exact ⟨h.post.below a,⟨C,ae a i,j⟩,bC h.srow b (fun _ _ x=>x),bC h.mrow b (fun _ _ x=>x),h.seq,h.meq,fun x d=>f (h.stos x d),fun x d=>f (h.mtos x d),fun k e=>⟨Nat.lt_of_lt_of_le (h.off k e).1 a.size,(h.off k e).2⟩⟩
theorem gX.same (h:gX E own pp gb c w vS vM sl ml g) {a:GS} (e:g=a):gX E own pp gb c w vS vM sl ml a:=by rw [←e];exact h
theorem gX.cells (h:gX E own pp gb c w vS vM sl ml g):w.cell? ⟨gb,0,none⟩=some (.pointer (some ⟨pp,0,none⟩))∧w.cell? ⟨gb,10,none⟩=some vS∧w.cell? ⟨gb,11,none⟩=some vM∧w.cell? ⟨gb,12,none⟩=some (.int .i64 g.S.time)∧w.cell? ⟨gb,13,none⟩=some (.bool g.bad)∧∀j,w.frozen? ⟨gb,j,none⟩=false:=by
 obtain ⟨C,a,k,b,d,e,f,i⟩:=h.blk;refine ⟨by rw [Lib.cell_of_heap a];exact b,by rw [Lib.cell_of_heap a];exact d,by rw [Lib.cell_of_heap a];exact e,by rw [Lib.cell_of_heap a];exact f,by rw [Lib.cell_of_heap a];exact i,fun j=>Lib.frozen_of_heap a j⟩
theorem gX.slen (h:gX E own pp gb c w vS vM sl ml g):sl.length=g.seats.length:=by rw [←h.seq,List.length_map]
theorem gX.mlen (h:gX E own pp gb c w vS vM sl ml g):ml.length=g.mails.length:=by rw [←h.meq,List.length_map]
theorem gX.seat (h:gX E own pp gb c w vS vM sl ml g) {n:Nat} (o:n < sl.length):∃sb a,vS= .slice (some ⟨sb,0,none⟩) sl.length a∧(∀i,i < 5→w.cell? ⟨sb,n * 5+i,none⟩=(di sl[n].1 sl[n].2)[i]?)∧∀j,w.frozen? ⟨sb,j,none⟩=false:=by
 rcases h.srow.2 with ⟨_,p⟩ | ⟨l,f,k,e,_,d,_,_,_,b⟩
 ·omega
 ·refine ⟨l,f,e,fun i m=>?_,fun j=>Lib.frozen_of_heap d j⟩;rw [Lib.cell_of_heap d,←Array.getElem?_toList,←List.getElem?_take_of_lt (show n * 5+i < sl.length * 5 by omega),b,DG _ _ _ o m]
theorem Hp {α β:Type} {l:List (α×β)} (n:Nat) (y:α×β):(l.set n y).map (·.1)=(l.map (·.1)).set n y.1:=by rw [List.map_set]
theorem gX.putS (h:gX E own pp gb c w vS vM sl ml g) {n i sb l:Nat} (z:n < sl.length) (t:i < 5) (o:vS= .slice (some ⟨sb,0,none⟩) sl.length l) {u:Value} {y:ca×Value} (D:di y.1 y.2=(di sl[n].1 sl[n].2).set i u) (A:iE E own gb vS vM w y.1.tos y.2):gX E own pp gb c (w.setCell ⟨sb,n * 5+i,none⟩ u) vS vM (sl.set n y) ml {g with seats:=g.seats.set n y.1}∧aH (fX gb vS vM) w (w.setCell ⟨sb,n * 5+i,none⟩ u):=by
 have a:vS.ownBlock=some sb:=by rw [o];rfl
 have m:aH (fun k=>k=sb) w (w.setCell ⟨sb,n * 5+i,none⟩ u):=aH.same ((aL.refl _ _).setCell _);have b:aH (fX gb vS vM) w (w.setCell ⟨sb,n * 5+i,none⟩ u):=m.mono (fun k _ e=>by rw [e];exact .inr (.inl a));obtain ⟨C,r,s⟩:=h.blk;have q:=h.srow;rw [o] at q;have d:=Ik (j:=n * 5+i) (x:=u) q;rw [BG z t D,←o] at d
 have p:=h.turn (vS':=vS) (vM':=vM) (sl':=sl.set n y) (ml':=ml) (bad':=g.bad) b ⟨C,m.some_ r (fun e=>((h.tag).1 sb a).1 e.symm),s⟩ (by rw [List.length_set];exact d) (bC h.mrow m (fun k e x=>((h.tag).1 sb a).2 (by rw [←x];exact e))) (fun k e=> .inl e) (fun x f=>by
  rcases List.mem_or_eq_of_mem_set f with f | f
  ·exact h.stos x f
  ·rw [f];exact A) h.mtos
 rw [Hp,h.seq,h.meq] at p;exact ⟨p,b⟩
theorem gX.putB (h:gX E own pp gb c w vS vM sl ml g) (b:Bool):gX E own pp gb c (w.setCell ⟨gb,13,none⟩ (.bool b)) vS vM sl ml {g with bad:=b}∧aH (fX gb vS vM) w (w.setCell ⟨gb,13,none⟩ (.bool b)):=by
 have d:aH (fun k=>k=gb) w (w.setCell ⟨gb,13,none⟩ (.bool b)):=aH.same ((aL.refl _ _).setCell _);have a:aH (fX gb vS vM) w (w.setCell ⟨gb,13,none⟩ (.bool b)):=d.mono (fun k _ e=> .inl e);obtain ⟨C,i,j,l,m,n,o,q⟩:=h.blk;have p:=heap_setCell_same w gb 13 _ _ (.bool b) i;have f:=h.turn (vS':=vS) (vM':=vM) (sl':=sl) (ml':=ml) (bad':=b) a ⟨_,p,by simpa using j,by rw [Array.getElem?_setIfInBounds_ne (by decide)];exact l,by rw [Array.getElem?_setIfInBounds_ne (by decide)];exact m,by rw [Array.getElem?_setIfInBounds_ne (by decide)];exact n,by rw [Array.getElem?_setIfInBounds_ne (by decide)];exact o,by rw [Array.getElem?_setIfInBounds_self_of_lt (by omega)]⟩ (bC h.srow d (fun k e=>((h.tag).1 k e).1)) (bC h.mrow d (fun k e=>(h.tag).2 k e)) (fun k e=> .inl e) h.stos h.mtos
 rw [h.seq,h.meq] at f;exact ⟨f,a⟩
end
theorem Av {l:List UInt8} {c:List UInt8×List UInt8} (h:ji l=some c) (x:List UInt8):ji (l++x)=some (c.1,c.2++x):=by
 have g:=ku h;rw [pI] at h ⊢
 split at h
 ·cases h
 ·rename_i a
  simp only [not_or,Nat.not_lt,Classical.not_not] at a;injection h with h;have f:(l++x).take 4=l.take 4:=List.take_append_of_le_length (by omega)
  have b:((l++x).drop 4).take 4=(l.drop 4).take 4:=by
   rw [List.drop_append_of_le_length (by omega),List.take_append_of_le_length (by rw [List.length_drop];omega)]
  have e:(l++x).drop 8=l.drop 8++x:=List.drop_append_of_le_length (by omega);have t:(l.drop 8++x).take (be (l.take 4))=(l.drop 8).take (be (l.take 4)):=List.take_append_of_le_length (by rw [List.length_drop];omega);have d:(l.drop 8++x).drop (be (l.take 4))=(l.drop 8).drop (be (l.take 4))++x:=List.drop_append_of_le_length (by rw [List.length_drop];omega);rw [f,b,e,t,d,if_neg,←h];simp only [not_or,Nat.not_lt,Classical.not_not];exact ⟨by rw [List.length_append];omega,a.2⟩
theorem EL (l:List UInt8):sV l≤4294967295:=by unfold sV;omega
theorem Cz (c x:List UInt8) (f:c.length < 4294967296):ji (bJ c++x)=some (c,x):=by
 have b:(256:Nat) ^ 4=4294967296:=by decide
 have e:bJ c++x=az 4 c.length++(az 4 (sV c)++(c++x)):=by
  unfold bJ;simp
 have i:=bf 4 c.length;have j:=bf 4 (sV c)
 have k:(bJ c++x).take 4=az 4 c.length:=by
  rw [e,List.take_append_of_le_length (by omega),List.take_of_length_le (by omega)]
 have a:(bJ c++x).drop 4=az 4 (sV c)++(c++x):=by
  rw [e];exact List.drop_left' i
 have d:(bJ c++x).drop 8=c++x:=by
  have:(bJ c++x).drop 8=((bJ c++x).drop 4).drop 4:=by rw [List.drop_drop]
  rw [this,a];exact List.drop_left' j
 have g:be ((bJ c++x).take 4)=c.length:=by rw [k,lI,b,Nat.mod_eq_of_lt f]
 have h:be (((bJ c++x).drop 4).take 4)=sV c:=by
  rw [a,List.take_append_of_le_length (by omega),List.take_of_length_le (by omega),lI,b,Nat.mod_eq_of_lt (by have:=EL c;omega)]
 rw [pI,g,h,d,List.take_left,List.drop_left,if_neg];simp only [not_or,Nat.not_lt,Classical.not_not,and_true];rw [e];simp only [List.length_append];omega
theorem yf (f:Nat) (S:aa) (k:Nat):dz f S k []=(S,k):=by
 cases f with
 | zero=>rfl
 | succ f=>exact gP pH
theorem qV:∀(f:Nat) (S:aa) (k:Nat) (l x:List UInt8) (a:Nat),(dz f S k l).2=k+l.length→l.length < f→(l++x).length < a→∃g,x.length < g∧dz a S k (l++x)=dz g (dz f S k l).1 (k+l.length) x
 | 0,S,k,l,x,a,_,h,_=>by omega
 | f+1,S,k,l,x,a,h1,h2,h3=>by
  have b:l=[]→∃g,x.length < g∧dz a S k (l++x)=dz g (dz (f+1) S k l).1 (k+l.length) x:=fun e=>by
   subst e;rw [yf];exact ⟨a,h3,rfl⟩
  cases d:ji l with
  | none=>
   rw [gP d] at h1;exact b (List.length_eq_zero_iff.1 (by simp only at h1;omega))
  | some c=>
   have j:=ku d
   cases i:S.takes c.1 with
   | none=>
    rw [jf d i] at h1;simp only at h1;omega
   | some S'=>
    rw [fP d i] at h1 ⊢;obtain ⟨a,rfl⟩:∃g,a=g+1:=⟨a - 1,by omega⟩
    rw [fP (Av d x) i];rw [List.length_append] at h3;obtain ⟨g,g1,g2⟩:=qV f S' (k+8+c.1.length) c.2 x a (by omega) (by omega) (by rw [List.length_append];omega);refine ⟨g,g1,?_⟩;show dz a S' (k+8+c.1.length) (c.2++x)=_;rw [g2,show k+8+c.1.length+c.2.length=k+l.length by omega]
theorem pd {a c:List UInt8} {d:aa} (k:(bw a).2=a.length) (j:(bw a).1.takes c=some d) (i:c.length < 4294967296):bw (a++bJ c)=(d,a.length+(8+c.length)):=by
 obtain ⟨g,g1,g2⟩:=qV (a.length+1) ⟨[],0⟩ 0 a (bJ c) ((a++bJ c).length+1) (by rw [Nat.zero_add];exact k) (by omega) (by omega);obtain ⟨g,rfl⟩:∃h,g=h+1:=⟨g - 1,by omega⟩
 have b:=Cz c [] i;rw [List.append_nil] at b;have f:(dz (a.length+1) ⟨[],0⟩ 0 a).1.takes c=some d:=j;have e:bw (a++bJ c)=dz ((a++bJ c).length+1) ⟨[],0⟩ 0 (a++bJ c):=rfl;rw [e,g2,fP b f,yf];show (d,0+a.length+8+c.length)=_;rw [show 0+a.length+8+c.length=a.length+(8+c.length) by omega]
theorem BR {S b:aa} {l:List UInt8} (h:S.takes l=some b):S.items.length≤b.items.length:=by
 have d:∀(S:aa) (m:aX) (a:List Nat) (T:Nat),S.items.length≤(S.failed m a T).items.length:=fun S m a T=>by
  unfold aa.failed
  split
  ·exact Nat.le_refl _
  ·simp
 have c:∀(S:aa) (k:Nat) (a:List Nat),(S.outs k a).items.length=S.items.length:=fun S k a=>by unfold aa.outs;simp
 rw [mj] at h
 split at h
 ·unfold aa.takesM at h
  split at h
  ·injection h with h;rw [←h];simp
  ·cases h
 ·split at h
  ·unfold aa.takesG at h
   split at h
   ·injection h with h;rw [←h,c];exact Nat.le_refl _
   ·cases h
  ·split at h
   ·unfold aa.takesF at h
    split at h
    ·injection h with h;rw [←h];refine Nat.le_trans ?_ (d _ _ _ _);rw [c];exact Nat.le_refl _
    ·cases h
   ·cases h
theorem kP:∀(f:Nat) (S:aa) (k:Nat) (l:List UInt8),S.items.length≤(dz f S k l).1.items.length
 | 0,S,k,l=>Nat.le_refl _
 | f+1,S,k,l=>by
  cases a:ji l with
  | none=>rw [gP a];exact Nat.le_refl _
  | some c=>
   cases b:S.takes c.1 with
   | none=>rw [jf a b];exact Nat.le_refl _
   | some S'=>rw [fP a b];exact Nat.le_trans (BR b) (kP f S' _ _)
theorem vh:∀(f:Nat) (S:aa) (k:Nat) (l x:List UInt8) (a:Nat),(l++x).length < a→(dz f S k l).1.items.length≤(dz a S k (l++x)).1.items.length
 | 0,S,k,l,x,a,_=>kP a S k _
 | f+1,S,k,l,x,a,h=>by
  cases b:ji l with
  | none=>rw [gP b];exact kP a S k _
  | some c=>
   cases d:S.takes c.1 with
   | none=>rw [jf b d];exact kP a S k _
   | some S'=>
    have e:=ku b;obtain ⟨a,rfl⟩:∃g,a=g+1:=⟨a - 1,by omega⟩
    rw [fP b d,fP (Av b x) d];refine vh f S' _ c.2 x a ?_;rw [List.length_append] at h ⊢;omega
theorem Du (l x:List UInt8):(bw l).1.items.length≤(bw (l++x)).1.items.length:=vh _ _ _ _ _ _ (by omega)
structure KS (S:aa) (T:Nat) (all:List UInt8):Prop where
 items:S.items=(bw all).1.items
 time:S.time=T
 le:(bw all).1.time≤T
 whole:(bw all).2=all.length
theorem KS.mail {S:aa} {T:Nat} {a:List UInt8} (h:KS S T a) {m:aX} (i:bP (cA m)=some m) (e:m.id=S.items.length+1) (c:m.time=T) (g:(cA m).length < 4294967296):KS (S.plus m) T (a++bJ (cA m)):=by
 have f:(bw a).1.takes (cA m)=some ((bw a).1.plus m):=by
  rw [mj,i];show aa.takesM _ m=_;unfold aa.takesM;rw [decide_eq_true (by rw [e,h.items]),decide_eq_true (by rw [c];exact h.le)];rfl
 have b:=pd h.whole f g;have d:(bJ (cA m)).length=8+(cA m).length:=by unfold bJ;simp only [List.length_append,bf];omega
 refine ⟨?_,c,?_,?_⟩
 ·rw [b];show S.items++_=(bw a).1.items++_;rw [h.items]
 ·rw [b];exact Nat.le_of_eq c
 ·rw [b,List.length_append,d]
theorem DT {S R:aa} (h:S.items=R.items) {b T:Nat} {ps:List Nat} (g:S.time≤T) (f:R.time≤T):S.takesF T b ps=R.takesF T b ps:=by
 obtain ⟨a,c⟩:=S;obtain ⟨j,d⟩:=R
 cases h
 unfold aa.takesF;have e:bt ⟨a,c⟩ b ps=bt ⟨a,d⟩ b ps:=rfl;rw [e,decide_eq_true (show (⟨a,c⟩:aa).time≤T from g),decide_eq_true (show (⟨a,d⟩:aa).time≤T from f)];rfl
section
variable {S:aa} {T:Nat} {all:List UInt8} {i:Nat} {ps:List Nat}
theorem KS.gone (h:KS S T all) (j:i+1≤4294967295) (e:1≤ps.length) (d:ps.length≤100) (b:∀x∈ps,x≤255) (n:bF ps=true) (m:bt S (i+1) ps=true):KS (S.outs i ps) T (all++bJ (71::aM (i+1) ps)):=by
 have g:dh (71::aM (i+1) ps)=some (i+1,ps):=by
  show (if (71:UInt8)=71 then dq (aM (i+1) ps) else none)=_;rw [if_pos rfl,j7 j e d b n]
 have a:bt (bw all).1 (i+1) ps=true:=by
  rw [←m];unfold bt aa.outOf;rw [h.items]
 have k:(bw all).1.takes (71::aM (i+1) ps)=some ((bw all).1.outs i ps):=by
  rw [vT,g];show aa.takesG _ (i+1) ps=_;unfold aa.takesG;rw [if_pos a,Nat.add_sub_cancel]
 have l:(71::aM (i+1) ps).length < 4294967296:=by
  have:=(pM (id:=i+1) (T:=0) d).1;unfold bJ at this;simp only [List.length_append,bf] at this;omega
 have c:=pd h.whole k l;have f:(bJ (71::aM (i+1) ps)).length=8+(71::aM (i+1) ps).length:=by unfold bJ;simp only [List.length_append,bf];omega
 refine ⟨?_,h.time,?_,?_⟩
 ·rw [c];show S.items.modify .. =(bw all).1.items.modify ..;rw [h.items]
 ·rw [c];exact h.le
 ·rw [c,List.length_append,f]
theorem KS.fail (h:KS S T all) (l:T≤1000000000) (o:i+1≤4294967295) (e:1≤ps.length) (g:ps.length≤100) (c:∀x∈ps,x≤255) (r:bF ps=true) {b:aa} (f:S.takesF T (i+1) ps=some b):KS b T (all++bJ (70::(az 4 T++aM (i+1) ps))):=by
 have n:bS (70::(az 4 T++aM (i+1) ps))=some (T,i+1,ps):=by
  show (if (70:UInt8)=70 then (fZ 4 (az 4 T++aM (i+1) ps)).bind fun a=>(dq a.2).bind fun x=>if a.1≤1000000000 then some (a.1,x.1,x.2) else none else none)=_;rw [if_pos rfl,jx (k:=4) (aM (i+1) ps) (show T < 256 ^ 4 by omega)];show (dq (aM (i+1) ps)).bind _=_;rw [j7 o e g c r];show (if T≤1000000000 then some (T,i+1,ps) else none)=_;rw [if_pos l]
 have p:(bw all).1.takes (70::(az 4 T++aM (i+1) ps))=some b:=by
  rw [qB,n];show aa.takesF _ T (i+1) ps=_;rw [←f];exact (DT h.items (Nat.le_of_eq h.time) h.le).symm
 have q:(70::(az 4 T++aM (i+1) ps)).length < 4294967296:=by
  have:=(pM (id:=i+1) (T:=T) g).2;unfold bJ at this;simp only [List.length_append,bf] at this;omega
 have d:=pd h.whole p q;have m:(bJ (70::(az 4 T++aM (i+1) ps))).length=8+(70::(az 4 T++aM (i+1) ps)).length:=by unfold bJ;simp only [List.length_append,bf];omega
 have j:=(ya e f).2.2;refine ⟨?_,j,?_,?_⟩
 ·rw [d]
 ·rw [d];exact Nat.le_of_eq j
 ·rw [d,List.length_append,m]
end
def KX (x:aa×List UInt8):Prop:=KS x.1 x.1.time x.2
def fF (a b:List UInt8):Prop:=∃r,b=a++r
theorem fF.refl (a:List UInt8):fF a a:=⟨[],by simp⟩
theorem fF.trans {a b c:List UInt8} (h:fF a b) (d:fF b c):fF a c:=by
 obtain ⟨r,rfl⟩:=h;obtain ⟨q,rfl⟩:=d;exact ⟨r++q,by simp⟩
section
variable {x:aa×List UInt8} {i:Nat} {ps:List Nat}
theorem GP (h:KX x) (k:oK x) (g:ps.length≤100) (j:bF ps=true) (a:ps≠[]→bt x.1 (i+1) ps=true) (b:∀y∈ps,y≤255):KX (j0 x i ps)∧fF x.2 (j0 x i ps).2:=by
 unfold j0
 split
 ·exact ⟨h,fF.refl _⟩
 ·rename_i e
  have c:1≤ps.length:=List.length_pos_iff.2 e;have a:=a e
  have f:i+1≤4294967295:=by
   have d:=a;rw [db c,Bool.and_eq_true,decide_eq_true_eq,Nat.add_sub_cancel] at d;have:=bq d.1.2;have:=k.led.items;omega
  exact ⟨KS.gone h f c g b j a,_,rfl⟩
theorem AA (h:KX x) (c:oK x) (j:ps.length≤100) (k:bF ps=true) (a:ps≠[]→bt x.1 (i+1) ps=true) (b:∀y∈ps,y≤255):KX (jr x i ps)∧fF x.2 (jr x i ps).2:=by
 have p:=(nP c j k a).2
 by_cases e:ps=[]
 ·have l:jr x i ps=x:=by unfold jr;rw [if_pos e]
  rw [l];exact ⟨h,fF.refl _⟩
 ·have d:1≤ps.length:=List.length_pos_iff.2 e;have n:=p e;have a:=a e
  have o:i+1≤4294967295:=by
   have f:=a;rw [db d,Bool.and_eq_true,decide_eq_true_eq,Nat.add_sub_cancel] at f;have:=bq f.1.2;have:=c.led.items;omega
  have g:=KS.fail h c.time o d j b k n;have m:(jr x i ps).2=x.2++bJ (70::(az 4 x.1.time++aM (i+1) ps)):=by unfold jr;rw [if_neg e]
  unfold KX;rw [m,g.time];exact ⟨g,_,rfl⟩
end
theorem IH {x:aa×List UInt8} (h:KX x) (e:oK x) (d:Int) {i:Nat} (f:i∈x.1.live):KX (kW d x i)∧fF x.2 (kW d x i).2:=by
 unfold kW
 split
 ·obtain ⟨a,b,c⟩:=ud e f;exact AA h e a b c (kE e.ok i)
 ·exact ⟨h,fF.refl _⟩
theorem F6 {x:aa×List UInt8} (h:KX x) (o:oK x) (c:Int) {l:List Nat} (m:∀i∈l,i∈x.1.live) (n:l.Nodup):∀k,k≤l.length→KX (dw c x (l.take k))∧fF x.2 (dw c x (l.take k)).2:=by
 intro k
 induction k with
 | zero=>exact fun _=>⟨h,fF.refl _⟩
 | succ k ih=>
  intro p;obtain ⟨a,b⟩:=ih (by omega);obtain ⟨g,d,_,_⟩:=lB o c m n k (by omega);rw [List.take_succ_eq_append_getElem (by omega:k < l.length),pg];have j:l.drop k=l[k]::l.drop (k+1):=List.drop_eq_getElem_cons (by omega);rw [j] at d;obtain ⟨e,f⟩:=IH a g c (d _ (List.mem_cons_self ..));exact ⟨e,b.trans f⟩
theorem xE {c:bX} {s:bG} {S:aa} {a:List UInt8} (k:ij c=true) (g:gM c s S a) (h:KX (S,a)) (d:List UInt8) (e:Bool):KX ((aO c s S a d e).2.1,(aO c s S a d e).2.2.1)∧fF a (aO c s S a d e).2.2.1:=by
 unfold aO
 split
 ·rename_i t n
  split
  ·rename_i b i
   unfold dn kz
   split
   ·split
    ·exact ⟨h,fF.refl _⟩
    ·split
     ·exact ⟨h,fF.refl _⟩
     ·rename_i j
      split
      ·have f:=(g.tx t n).1;have l:b.text.length≤1000:=by have:=(ly k).2.1;omega
       have m:=Bn g.keep f i l;have o:=qS (td g.keep f i);exact ⟨KS.mail h m rfl rfl (by omega),_,rfl⟩
      ·exact ⟨h,fF.refl _⟩
   ·exact ⟨h,fF.refl _⟩
  ·exact ⟨h,fF.refl _⟩
 ·exact ⟨h,fF.refl _⟩
theorem Ii {S:aa} {c:List UInt8} (h:KX (S,c)) (i:oK (S,c)) {t:aQ} (n:t.i∈S.live) (g:dC (S.stayOf t.i) t):KX (cV S c t)∧fF c (cV S c t).2:=by
 have d:∀b,∀p∈t.took b,p∈(S.stayOf t.i).map (·.1):=fun b p o=>g.sub p (by unfold aQ.act;exact List.mem_append.2 (.inr (ob o)));have u:(S.stayOf t.i).length≤10:=dk i.ok t.i;have g1:(t.took true).length≤100:=by have:=kF g true;omega
 have k:(t.took false).length≤100:=by have:=kF g false;omega
 obtain ⟨r,q,s,v,_⟩:=kS (x:=(S,c)) (gs:=t.took true) (fs:=t.took false) i n g1 k (jg (iu g _)) (d _) (d _) (fun p l m=>mn g l m);obtain ⟨a,b⟩:=GP h i g1 (jg (iu g _)) r (fun y j=>kE i.ok t.i y (d true y j));obtain ⟨e,f⟩:=AA a q.ok k (jg (iu g _)) s (fun y j=>kE i.ok t.i y (d false y j));exact ⟨e,b.trans f⟩
theorem hU.kx {c:bX} {g d:GS} (k:ij c=true) (f:hU c g d) (h:KX (g.S,g.recs)) (a:oK (g.S,g.recs)) (e:∀(n:Nat) (s:bG),g.l[n]? =some (some s)→gM c s g.S g.recs) (j:∀t,g.tk=some t→t.i∈g.S.live∧dC (g.S.stayOf t.i) t):KX (d.S,d.recs)∧fF g.recs d.recs:=by
 cases f with
 | line n s x l hl f hx=>exact xE k (e n s f) h l false
 | conn addr h0 h1 hl=>exact ⟨h,fF.refl _⟩
 | tick T hT htk=>
  have m:KX ((⟨g.S.items,T⟩:aa),g.recs):=⟨h.items,rfl,Nat.le_trans h.le hT.1,h.whole⟩;have b:=F6 m ⟨a.ok.time T,a.led,hT.2⟩ c.life (l:=g.S.live) (fun i e=>e) (gJ g.S) g.S.live.length (Nat.le_refl _);rw [List.take_length] at b;exact b
 | dial i hi' hd htk=>exact ⟨h,fF.refl _⟩
 | ans t code hcc hsd htk=>exact ⟨h,fF.refl _⟩
 | over t htk=>exact Ii h a (j t htk).1 (j t htk).2
 | close n s x hsn hx=>exact ⟨h,fF.refl _⟩
structure wo (c:bX) (g:GS):Prop where
 sok:oK (g.S,g.recs)
 ses:∀(n:Nat) (s:bG),g.l[n]? =some (some s)→gM c s g.S g.recs
 talk:∀t,g.tk=some t→t.i∈g.S.live∧dC (g.S.stayOf t.i) t
 kx:KX (g.S,g.recs)
theorem gM.to {c:bX} {s:bG} {S e:aa} {b a:List UInt8} (h:gM c s S b) (d:oK (e,a)):gM c s e a:=⟨h.tx,d.time,d.led,d.ok,h.wait⟩
theorem wo.step {c:bX} {g w:GS} (C:ij c=true) (d:wo c g) (D:hU c g w):wo c w∧fF g.recs w.recs:=by
 obtain ⟨o,A⟩:=D.kx C d.kx d.sok d.ses d.talk;refine ⟨?_,A⟩
 cases D with
 | line n s x l hl hsn hx=>
  obtain ⟨v,I,_⟩:=iU C (d.ses n s hsn) l false (uQ (pZ hl).ok).1;have j:oK ((fI c g n s x l).S,(fI c g n s x l).recs):=⟨v.recs,v.len,v.time⟩;have r:oj g.S (fI c g n s x l).S:=lP c s g.S g.recs l false;refine ⟨j,fun m y h=>?_,fun t f=>?_,o⟩
  ·rcases kQ h with ⟨_,e⟩ | ⟨_,e⟩
   ·split at e
    ·cases e
    ·injection e with e;rw [←e];exact v
   ·exact (d.ses m y e).to j
  ·obtain ⟨a,b⟩:=d.talk t f;have q:=bq a;exact ⟨(r.live q).2 a,by rw [r.stay _ q];exact b⟩
 | conn addr h0 B hl=>
  refine ⟨d.sok,fun m y h=>?_,d.talk,o⟩
  rcases kU h with ⟨_,e⟩ | ⟨_,e⟩
  ·injection e with e;rw [←e];exact ⟨(fun t e=>by cases e),d.sok.time,d.sok.led,d.sok.ok,by show ([]:List UInt8).length≤102;decide⟩
  ·exact d.ses m y e
 | tick T hT htk=>
  have k:=lB (x:=((⟨g.S.items,T⟩:aa),g.recs)) ⟨d.sok.ok.time T,d.sok.led,hT.2⟩ c.life (l:=g.S.live) (fun i k=>k) (gJ g.S) g.S.live.length (Nat.le_refl _);rw [List.take_length] at k;exact ⟨k.1,fun m y h=>(d.ses m y h).to k.1,(fun t f=>by have f:g.tk=some t:=f;rw [htk] at f;cases f),o⟩
 | dial i k hd htk=>
  refine ⟨d.sok,d.ses,fun t f=>?_,o⟩;injection f with f;rw [←f];exact ⟨k,uL g.S i⟩
 | ans t code hcc hsd htk=>
  refine ⟨d.sok,d.ses,fun J f=>?_,o⟩;obtain ⟨a,b⟩:=d.talk t htk;injection f with f;rw [←f];have e:(Gn c g.S t code).1.i=t.i:=GY ..;rw [e];exact ⟨a,Ei b hsd _ _ _ _⟩
 | over t htk=>
  obtain ⟨a,b⟩:=d.talk t htk;have u:∀z,∀p∈t.took z,p∈(g.S.stayOf t.i).map (·.1):=fun z p G=>b.sub p (by unfold aQ.act;exact List.mem_append.2 (.inr (ob G)));have H:(g.S.stayOf t.i).length≤10:=dk d.sok.ok t.i;obtain ⟨_,_,_,E,_⟩:=kS (x:=(g.S,g.recs)) (gs:=t.took true) (fs:=t.took false) d.sok a (by have:=kF b true;omega) (by have:=kF b false;omega) (jg (iu b _)) (u _) (u _) (fun p B F=>mn b B F);exact ⟨E.ok,fun m y h=>(d.ses m y h).to E.ok,(fun t f=>by cases f),o⟩
 | close n s x hsn hx=>
  refine ⟨d.sok,fun m y h=>?_,d.talk,o⟩
  rcases kQ h with ⟨_,e⟩ | ⟨_,e⟩
  ·cases e
  ·exact d.ses m y e
theorem wo.steps {c:bX} {k:Nat} {g d:GS} (i:ij c=true) (h:wo c g) (j:fy c k g d):wo c d∧fF g.recs d.recs:=by
 induction j with
 | nil=>exact ⟨h,fF.refl _⟩
 | snoc _ s ih=>
  obtain ⟨a,b⟩:=ih h;obtain ⟨e,f⟩:=a.step i s;exact ⟨e,b.trans f⟩
end Go.Proofs.YtofpegbpgkkgkaaGreatDoor
