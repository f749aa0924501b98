import Derived.Test.YtofpegbpgkkgkaaGreatDoorS13
import Derived.Test.YtofpegbpgkkgkaaGreatDoorS09
namespace Go.Proofs.YtofpegbpgkkgkaaGreatDoor
set_option maxHeartbeats 8000000
set_option maxRecDepth 1000000
open Go.RowKit
theorem oD {l:List UInt8} {m:aX} (h:bP l=some m):dr m=true:=by
 unfold bP at h
 split at h
 ·cases h
 ·split at h
  ·rw [Option.bind_eq_some_iff] at h;obtain ⟨a,_,h⟩:=h
   split at h
   ·cases h;assumption
   ·cases h
  ·cases h
theorem rL {m:aX} (h:dr m=true):1≤m.tos.length∧m.tos.length≤10:=by
 unfold dr iH at h;simp only [Bool.and_eq_true,decide_eq_true_eq] at h;exact ⟨h.1.2.1.1,h.1.2.1.2⟩
theorem uE {l:List UInt8} {x:Nat×List Nat} (h:dq l=some x):bF x.2=true:=by
 unfold dq at h;rw [Option.bind_eq_some_iff] at h;obtain ⟨a,_,h⟩:=h
 split at h
 ·rename_i b
  rw [Bool.and_eq_true] at b
  cases h
  exact b.2
 ·cases h
theorem qt {l:List UInt8} {T d:Nat} {b:List Nat} (h:bS l=some (T,d,b)):bF b=true:=by
 unfold bS at h
 split at h
 ·cases h
 ·split at h
  ·rw [Option.bind_eq_some_iff] at h;obtain ⟨a,_,h⟩:=h;rw [Option.bind_eq_some_iff] at h;obtain ⟨x,c,h⟩:=h
   split at h
   ·cases h;exact uE c
   ·cases h
  ·cases h
theorem Kx {S b:aa} {m:aX} (a:S.Ok) (e:dQ m) (d:1≤m.tos.length∧m.tos.length≤10) (h:S.takesM m=some b):b.Ok:=by
 unfold aa.takesM at h
 split at h
 ·rename_i c
  rw [Bool.and_eq_true,decide_eq_true_eq] at c
  cases h
  exact a.plus c.1 e d.1 d.2
 ·cases h
theorem Kv {S b:aa} {c:Nat} {d:List Nat} (a:S.Ok) (h:S.takesG c d=some b):b.Ok:=by
 unfold aa.takesG at h
 split at h
 ·cases h;exact a.outs _ _
 ·cases h
theorem Ku {S g:aa} {T a:Nat} {c:List Nat} (b:S.Ok) (l:bF c=true) (q:T≤1000000000) (u:S.items.length < 4294967295) (h:S.takesF T a c=some g):g.Ok:=by
 have d:bt S a c=true∧S.time≤T:=by
  unfold aa.takesF at h
  split at h
  ·rename_i d
   rwa [Bool.and_eq_true,decide_eq_true_eq] at d
  ·cases h
 obtain ⟨o,p⟩:=kf l d.1 d.2;have k:aa.Ok (aa.outs ⟨S.items,T⟩ (a - 1) c):=(b.time T).outs _ _
 by_cases j:(S.mailOf (a - 1)).frm=[]
 ·rw [o j] at h;cases h;exact k
 ·rw [p j] at h
  cases h
  have e:a - 1 < S.items.length:=by
   have:=d.1;unfold bt at this;simp only [Bool.and_eq_true,decide_eq_true_eq] at this;omega
  have m:dQ (S.mailOf (a - 1)):=by rw [cd e];exact (b.sz _ (List.getElem_mem e)).1
  have s:(dx (S.stayOf (a - 1)) c).length≤10:=by have:=mV (S.stayOf (a - 1)) c;have:=dk b (a - 1);omega
  have n:∀t∈dx (S.stayOf (a - 1)) c,t.length≤255:=by
   intro t f;rw [jS l d.1,List.mem_map] at f;obtain ⟨i,_,rfl⟩:=f;exact nQ m.2.2.2.2.1 i
  have r:=lX _ n;refine k.plus (by rw [bL]) ⟨by show S.items.length+1≤_;omega,by show T≤_;omega,by simp,by simp,fun t f=>by simp at f;subst f;exact m.2.2.1,by show (fY _).length≤_;omega⟩ (by simp) (by simp)
theorem kj {w:World} {b i n:Nat} {e:TypeId} {v:Value} {j:List Value} (h:w.ownsRow b e i v n j):∃a m c,v= .slice a m c:=by
 rcases h.2 with ⟨e,_⟩ | ⟨g,d,f,e,_⟩
 ·exact ⟨_,_,_,e⟩
 ·exact ⟨_,_,_,e⟩
theorem Ac (j K W:Nat) (q:Nat→Nat) (vr:Value) (S:aa) (l:List UInt8) (n:Int) (w:World) (h:bh j w K W q vr S) (u:S.Ok) (hl:l.length≤536870912) (hm:w.cell? ⟨0,0,none⟩=some (.int .i64 n)) (hn:S.items.length < 4294967295):
  Calls Tryz.prog 75 #[.pointer (some ⟨K,0,none⟩),.string (bs l)] w fun e w'=>mL j K W q vr S (S.takes l) w e w'∧∀c,S.takes l=some c→c.Ok:=by
 have V:=h.le;have HH:=Lib.hid h;have o:=Lib.hid (mj S l);have HM:=Lib.hid (ka l n w hl hm);clear h hm;go_enter Tryz.func75,Tryz.ntmps75;go_wp2_with fail
 refine HM.out.mono ?_;rintro e w1 ⟨b,E⟩;have L:=Lib.hid (HH.out.keep E);have B1:=Lib.hid E;clear E
 rcases b with ⟨d,rfl⟩ | ⟨J,v,d,rfl,z,hz⟩
 ·rw [d] at o;simp only [aY,lf];clear d;go_wp2_with fail
  refine (ma l _ hl).mono ?_;rintro e w3 ⟨b,F⟩;have M:=Lib.hid ((L.out.keep ((Below.refl _ _).alloc (Nat.le_refl _) _)).keep F);have N:=Lib.hid (((B1.out.mono V).alloc L.out.le _).trans (F.mono (Nat.le_trans L.out.le (by simp))));clear F
  rcases b with ⟨d,rfl⟩ | ⟨I,Y,v,d,rfl,z,s,x,y,H⟩
  ·rw [d] at o;clear d;go_wp2_with fail
   refine (nA l _ hl).mono ?_;rintro e w5 ⟨b,G⟩;have A5:=Lib.hid ((M.out.keep ((Below.refl _ _).alloc (Nat.le_refl _) _)).keep G);have O:=Lib.hid ((N.out.alloc M.out.le _).trans (G.mono (Nat.le_trans M.out.le (by simp))));clear G
   rcases b with ⟨d,rfl⟩ | ⟨T,I,Y,v,d,rfl,⟨z,s,x,y,H⟩,hT⟩
   ·rw [d] at o;have a:Hid (S.takes l=none):=Lib.hid o.out;clear d o;go_wp2_with fail
    go_ret;exact ⟨⟨.inl ⟨a.out,rfl,A5.out.keep ((Below.refl _ _).alloc (Nat.le_refl _) _)⟩,O.out.alloc A5.out.le _⟩,fun c A=>by rw [a.out] at A;cases A⟩
   ·have m:=qt d;rw [d] at o;have a:Hid (S.takes l=S.takesF T I Y):=Lib.hid o.out;obtain ⟨Q,X,U,rfl⟩:=kj z;obtain ⟨W6,D⟩:∃W6:World,w5.alloc (.cells #[.int .i64 I,.slice Q X U] 193)=W6:=⟨_,rfl⟩;have B6:Below w5.heap.size w5 W6:=by rw [←D];exact (Below.refl _ _).alloc (Nat.le_refl _) _
    have P:=Lib.hid (vL j K W q vr _ S T I Y W6 (A5.out.keep B6) u _ (aA z fun g R e _=>ae B6 e) s x y m hT hn);have a2:=Lib.hid (O.out.trans (B6.mono A5.out.le));have i:Hid (∀c,S.takes l=some c→c.Ok):=Lib.hid (fun c A=>Ku u m hT hn (by rw [←a.out];exact A));have a5:=Lib.hid D;clear d o B6 D z s x y H m hT;go_wp2_with fail
    rw [a5.out];refine P.out.mono ?_;rintro e w7 ⟨b,k⟩;have f:=Lib.hid (a2.out.trans k);clear k
    rcases b with ⟨p,rfl,r⟩ | ⟨c,Z,p,rfl,r⟩
    ·go_wp2_with fail
     go_ret;exact ⟨⟨.inl ⟨a.out.trans p,rfl,r⟩,f.out⟩,i.out⟩
    ·go_wp2_with fail
     go_ret;exact ⟨⟨.inr ⟨c,Z,a.out.trans p,rfl,r⟩,f.out⟩,i.out⟩
  ·rw [d] at o;have a:Hid (S.takes l=S.takesG I Y):=Lib.hid o.out;obtain ⟨Q,X,U,rfl⟩:=kj z;obtain ⟨W4,C⟩:∃W4:World,w3.alloc (.cells #[.int .i64 I,.slice Q X U] 193)=W4:=⟨_,rfl⟩;have B4:Below w3.heap.size w3 W4:=by rw [←C];exact (Below.refl _ _).alloc (Nat.le_refl _) _
   have P:=Lib.hid (zz j K W q vr _ S I Y W4 (M.out.keep B4) u (aF (aA z fun g R e _=>ae B4 e)) s x y (by omega));have a1:=Lib.hid (N.out.trans (B4.mono M.out.le));have i:Hid (∀c,S.takes l=some c→c.Ok):=Lib.hid (fun c A=>Kv u (by rw [←a.out];exact A));have a4:=Lib.hid C;clear d o B4 C z s x y H;go_wp2_with fail
   rw [a4.out];refine P.out.mono ?_;rintro e w7 ⟨b,k⟩;have f:=Lib.hid (a1.out.trans k);clear k
   rcases b with ⟨p,rfl,r⟩ | ⟨c,Z,p,rfl,r⟩
   ·go_wp2_with fail
    go_ret;exact ⟨⟨.inl ⟨a.out.trans p,rfl,r⟩,f.out⟩,i.out⟩
   ·go_wp2_with fail
    go_ret;exact ⟨⟨.inr ⟨c,Z,a.out.trans p,rfl,r⟩,f.out⟩,i.out⟩
 ·rw [d] at o;have a:Hid (S.takes l=S.takesM J):=Lib.hid o.out;have t:=rL (oD d);obtain ⟨Q,X,U,rfl⟩:=kj z;obtain ⟨W2,B⟩:∃W2:World,w1.alloc (.cells #[.int .i64 J.id,.int .i64 J.time,.string (bs J.frm),.slice Q X U,.string (bs J.body)] 45)=W2:=⟨_,rfl⟩;have B2:Below w1.heap.size w1 W2:=by rw [←B];exact (Below.refl _ _).alloc (Nat.le_refl _) _
  have P:=Lib.hid (zA j K W q vr S J _ W2 (L.out.keep B2) _ (aA z fun g R e _=>ae B2 e) hz t.1 hn);have a0:=Lib.hid ((B1.out.mono V).trans (B2.mono L.out.le));have i:Hid (∀c,S.takes l=some c→c.Ok):=Lib.hid (fun c A=>Kx u hz t (by rw [←a.out];exact A));have a3:=Lib.hid B;simp only [aY];clear d t B2 B z hz o;go_wp2_with fail
  rw [a3.out];refine P.out.mono ?_;rintro e w7 ⟨b,k⟩;have f:=Lib.hid (a0.out.trans k);clear k
  rcases b with ⟨p,rfl,r⟩ | ⟨c,Z,p,rfl,r⟩
  ·go_wp2_with fail
   go_ret;exact ⟨⟨.inl ⟨a.out.trans p,rfl,r⟩,f.out⟩,i.out⟩
  ·go_wp2_with fail
   go_ret;exact ⟨⟨.inr ⟨c,Z,a.out.trans p,rfl,r⟩,f.out⟩,i.out⟩
theorem vP (a d l:Nat) (q:Nat→Nat) (n:Value) (S:aa) (m:aX) (v:Value) (w:World) (h:bh a w d l q n S) (B:Nat) (u:w.ownsRow B 9 1 v m.tos.length (aB m.tos)) (L:dQ m) (t:1≤m.tos.length) (K:S.items.length < 4294967295) (s:m.id=S.items.length+1) (J:S.time≤m.time):
  Calls Tryz.prog 115 #[.pointer (some ⟨d,0,none⟩),.agg (aY m v)] w (fR a d l q n S (S.plus m) m.time w):=by
 obtain ⟨b,c⟩:∃b:World,w.alloc (.cells #[.int .i64 m.id,.int .i64 m.time,.string (bs m.frm),v,.string (bs m.body)] 45)=b:=⟨_,rfl⟩;have k:Below w.heap.size w b:=by rw [←c];exact (Below.refl _ _).alloc (Nat.le_refl _) _
 have j:bh a b d l q n S:=h.keep k;have f:b.heap[w.heap.size]? =some (.cells #[.int .i64 m.id,.int .i64 m.time,.string (bs m.frm),v,.string (bs m.body)] 45 (0,0)):=by rw [←c];exact heap_alloc_new w _
 have N:b.cell? ⟨d,1,none⟩=some (.int .i64 S.time):=by rw [Lib.cell_of_heap j.bag];rfl
 have O:b.cell? ⟨d,2,none⟩=some (.int .i64 S.items.length):=by rw [Lib.cell_of_heap j.bag];rfl
 have P:b.cell? ⟨w.heap.size,0,none⟩=some (.int .i64 m.id):=by rw [Lib.cell_of_heap f];rfl
 have Q:b.cell? ⟨w.heap.size,1,none⟩=some (.int .i64 m.time):=by rw [Lib.cell_of_heap f];rfl
 have R:b.cell? ⟨w.heap.size,2,none⟩=some (.string (bs m.frm)):=by rw [Lib.cell_of_heap f];rfl
 have T:b.cell? ⟨w.heap.size,3,none⟩=some v:=by rw [Lib.cell_of_heap f];rfl
 have U:b.cell? ⟨w.heap.size,4,none⟩=some (.string (bs m.body)):=by rw [Lib.cell_of_heap f];rfl
 have A:=Lib.hid h;have i:=Lib.hid j;have o:=Lib.hid k;have p:=Lib.hid c;have C:=Lib.hid (aA u fun g r e _=>ae k e);have D:=Lib.hid L;unfold aY;have V:IntKind.i64.wrap ((S.items.length:Int)+1)=(S.items.length:Int)+1:=by rw [IntKind.wrap_i64];omega
 have W:((m.id:Int) != (S.items.length:Int)+1)=false:=by rw [s];simp
 have x:¬m.time < S.time:=by omega
 have z:=Lib.hid s;clear j f k h c u s J;go_enter Tryz.func115,Tryz.ntmps115;go_wp2_with fail
 rw [p.out];go_quiet (fail)
 go_wp2_with fail
 refine (rA a d l q n S m v _ (i.out.drewN _) B (aA C.out fun g r e _=>ae (bA _ _ _) e) D.out z.out t K).mono ?_;rintro e X ⟨rfl,M,y,E,G,H,F⟩;go_wp2_with fail
 go_ret;obtain ⟨x,I⟩:=zU (i.out.drewN _) t E G H F;exact fR.after A.out (o.out.trans (bA _ _ _)) ⟨rfl,M,y,x,I⟩
theorem tK (a p y:Nat) (q:Nat→Nat) (z:Value) (S:aa) (l:List UInt8) (m:aX) (n:Int) (w:World) (h:bh a w p y q z S) (Q:l.length≤1048576) (F:w.cell? ⟨0,0,none⟩=some (.int .i64 n)) (R:S.items.length < 4294967295) (j:bP l=some m) (D:m.id=S.items.length+1) (E:S.time≤m.time):
  Calls Tryz.prog 75 #[.pointer (some ⟨p,0,none⟩),.string (bs l)] w (fR a p y q z S (S.plus m) m.time w):=by
 have C:=Lib.hid h;have L:=Lib.hid (ka l n w (Nat.le_trans Q (by decide)) F);have c:=Lib.hid j;have I:=Lib.hid D;have J:=Lib.hid E;clear h F j D E;go_enter Tryz.func75,Tryz.ntmps75;go_wp2_with fail
 refine L.out.mono ?_;rintro e A ⟨u,f⟩;have H:=Lib.hid (C.out.keep f);have B:=Lib.hid f;clear f
 rcases u with ⟨i,rfl⟩ | ⟨U,v,i,rfl,x,G⟩
 ·rw [c.out] at i;cases i
 ·rw [c.out] at i;injection i with i;subst i;have b:=rL (oD c.out);obtain ⟨N,T,P,rfl⟩:=kj x;obtain ⟨o,d⟩:∃o:World,A.alloc (.cells #[.int .i64 m.id,.int .i64 m.time,.string (bs m.frm),.slice N T P,.string (bs m.body)] 45)=o:=⟨_,rfl⟩;have k:Below A.heap.size A o:=by rw [←d];exact (Below.refl _ _).alloc (Nat.le_refl _) _
  have M:=Lib.hid (vP a p y q z S m _ o (H.out.keep k) _ (aA x fun g O e _=>ae k e) G b.1 R I.out J.out);have r:=Lib.hid (B.out.trans (k.mono B.out.size));have s:=Lib.hid d;simp only [aY];clear b k d x G;go_wp2_with fail
  rw [s.out];refine M.out.mono ?_;intro e V t;obtain ⟨rfl,_⟩:=id t;have K:=Lib.hid (fR.after C.out r.out t);clear t;go_wp2_with fail
  go_ret;exact K.out
structure fv [Kn] (w:World) (pb mb:Nat) (q:Nat→Nat) (vr:Value) (S:aa) (recs:List UInt8):Prop where
 inn:bh 0 w pb mb q vr S
 row:dT w vr recs
 due:jk w q S.live (bV S)
 kn:Kn.n0≤S.items.length
def an (w:World) (pb mb:Nat) (q:Nat→Nat) (vr:Value) (S:aa) (k:Nat):Prop:=fM w pb mb q S k∨vr.ownBlock=some k
def jm [Kn] (pb mb:Nat) (q:Nat→Nat) (vr:Value) (S:aa) (recs:List UInt8) (m:aX) (w w':World):Prop:=
 ∃q' vr',fv w' pb mb q' vr' (S.plus m) (recs++bJ (cA m))∧aH (an w pb mb q vr S) w w'∧∀k,an w' pb mb q' vr' (S.plus m) k→an w pb mb q vr S k∨w.heap.size≤k
theorem Dq {w:World} {a f j:Nat} {q:Nat→Nat} {c:Value} {S:aa} {b:List UInt8} (h:bh a w f j q c S) (i:dT w c b):c.ownBlock≠some f:=fun e=>by
 obtain ⟨g,z,d⟩:=i.tag e;rw [h.bag] at d;simp at d
theorem Ij {w:World} {a j f:Nat} {q:Nat→Nat} {c:Value} {S:aa} {b:List UInt8} (h:bh a w j f q c S) (i:dT w c b):c.ownBlock≠some f:=fun e=>by
 obtain ⟨g,z,d⟩:=i.tag e;have:=h.map;unfold gh at this;rw [this] at d;simp at d
theorem bh.row {d s p:Nat} {q:Nat→Nat} {l:Value} {S:aa} {j:List UInt8} {w u:World} (h:bh d w s p q l S) (o:dT w l j) (m:aH (fun k=>l.ownBlock=some k) w u):bh d u s p q l S:=by
 have r:∀{k:Nat} {C:Array Value} {t:TypeId} {z:Nat×Nat},w.heap[k]? =some (.cells C t z)→t≠5→l.ownBlock≠some k:=fun e B y=>by
  obtain ⟨n,D,f⟩:=o.tag y;rw [e] at f;injection f with f;injection f with _ f _;exact B f
 refine ⟨m.some_ h.bag (Dq h o),m.some_ h.map (Ij h o),h.pbb,h.mbb,h.one,fun i A=>?_⟩;obtain ⟨a,v,x,b,c⟩:=h.mail i A;exact ⟨a,v,x,m.some_ b (r b (by decide)),aA c fun g n e _=>m.some_ e (r e (by decide))⟩
theorem BB {c s r:Nat} {q:Nat→Nat} {o:Value} {S:aa} {f:List UInt8} {w:World} (h:bh c w s r q o S) (m:dT w o f) {g:Nat} (l:o.ownBlock=some g):¬fM w s r q S g:=by
 intro e;obtain ⟨u,z,n⟩:=m.tag l
 rcases e with e | e | ⟨i,B,e⟩
 ·exact Dq h m (by rw [←e];exact l)
 ·exact Ij h m (by rw [←e];exact l)
 ·obtain ⟨_,v,x,k,D⟩:=h.mail i B;unfold dL at k
  rcases e with e | ⟨C,E,a,b⟩
  ·rw [e,k] at n;simp at n
  ·rw [k] at a;injection a with a;injection a with a;subst a;have b:v.ownBlock=some g:=b
   rcases D.2 with ⟨j,_⟩ | ⟨A,t,p,j,_,d,_⟩
   ·rw [j] at b;simp [Value.ownBlock] at b
   ·rw [j] at b;have y:A=g:=by simpa [Value.ownBlock] using b
    rw [y,n] at d;simp at d
def gv [Kn] (pb mb:Nat) (q:Nat→Nat) (vr:Value) (S S':aa) (recs l:List UInt8) (w:World) (e:Ending) (w':World):Prop:=
 e= .returned (.bool true)∧∃q' vr',fv w' pb mb q' vr' S' (recs++bJ l)∧aH (an w pb mb q vr S) w w'∧∀k,an w' pb mb q' vr' S' k→an w pb mb q vr S k∨w.heap.size≤k
def pn [Kn] (S S':aa) (T:Nat):Prop:=S.items.length≤S'.items.length∧∀i∈S'.live,sH S.items.length T (bV S) i=bV S' i
theorem pn.of [Kn] {S a:aa} {T:Nat} (g:Kn.n0≤S.items.length) (c:S.items.length≤a.items.length) (d:∀i,i < S.items.length→a.mailOf i=S.mailOf i) (e:∀i∈a.live,S.items.length≤i→(a.mailOf i).time=T):pn S a T:=by
 refine ⟨c,fun i f=>?_⟩;unfold sH bV
 by_cases b:i < S.items.length
 ·rw [if_pos b,d i b]
 ·rw [if_neg b,if_neg (by omega),e i f (by omega)]
theorem kY [Kn] (d G:Nat) (q:Nat→Nat) (s:Value) (S A:aa) (b l:List UInt8) (T:Nat) (w:World) (h:fv w d G q s S b) (hD:pn S A T) (hl:l.length≤1048568) (a2:b.length≤1073741824) (hT:Calls Tryz.prog 75 #[.pointer (some ⟨d,0,none⟩),.string (bs l)] w (fR 0 d G q s S A T w)):
  Calls Tryz.prog 123 #[.pointer (some ⟨d,0,none⟩),.string (bs l)] w (gv d G q s S A b l w):=by
 have HT:=Lib.hid hT;have E:=Lib.hid h;have Y:(bJ l).length=8+l.length:=by unfold bJ;simp only [List.length_append,bf];omega
 have D:=Lib.hid hD;clear h hT hD;go_enter Tryz.func123,Tryz.ntmps123;go_wp2_with fail
 refine HT.out.mono ?_;rintro e m ⟨rfl,y,I,⟨P,O1⟩,D1⟩;have R:dT m s b:=E.out.row.chg P (fun g Z e=>BB E.out.inn E.out.row Z e);obtain ⟨av,cv,ev⟩:=R.len;have d0:m.drew.cell? ⟨d,0,none⟩=some s:=by show m.cell? _=_;rw [Lib.cell_of_heap I.bag];rfl
 have O:=Lib.hid (F9 l m.drew (by omega));have v:=Lib.hid (I.keep ((Below.refl _ _).drew));have M:=Lib.hid (R.below ((Below.refl _ _).drew));have K:=Lib.hid (P.trans (aH.below ((Below.refl m.heap.size m).drew):aH (fun _=>False) m m.drew) (fun _ _ e=>e.elim));have L:=Lib.hid O1;have J:=Lib.hid D1;clear I R P O1 D1;go_wp2_with fail
 have B:Hid (∀t:World,Below m.drew.heap.size m.drew t→∃a n c j,(Builtin.append_ #[114,9] 114 #[s,.string (bs (bJ l))]).run Tryz.prog t= .ok (.slice a n c) j∧j.cell? ⟨d,0,none⟩=some s∧j.frozen? ⟨d,0,none⟩=false∧gv d G q s S A b l w (.returned (.bool true)) (j.setCell ⟨d,0,none⟩ (.slice a n c))):=Lib.hid (by
  intro t f;have A2:=v.out.keep f;have U:=M.out.below f;obtain ⟨a,n,c,j,hr,R3,Q,O3⟩:=U.text (bJ l) (by rw [Y];omega);have u:=A2.row U Q;have H:aL d j (j.setCell ⟨d,0,none⟩ (.slice a n c)):=(aL.refl _ _).setCell _;have A4:=u.timed (T:=A.time) (vr':= .slice a n c) H (heap_setCell_same j d 0 _ _ _ u.bag)
  have a0:(Value.slice a n c).ownBlock≠some d:=fun e=>by
   obtain ⟨X,z,x⟩:=R3.tag e;rw [u.bag] at x;simp at x
  have K2:aH (fM w d G q S) w t:=K.out.trans (aH.below f:aH (fun _=>False) _ _) (fun _ _ e=>e.elim)
  have r:∀i∈A.live,(j.setCell ⟨d,0,none⟩ (.slice a n c)).heap[y i]? =m.heap[y i]? :=fun i o=>by
   obtain ⟨_,v3,x3,W,_⟩:=u.mail i o;obtain ⟨_,v2,x2,V,_⟩:=A2.mail i o;have e4:(j.setCell ⟨d,0,none⟩ (.slice a n c)).heap[y i]? =j.heap[y i]? :=H.2 _ (fun e=>by unfold dL at W;rw [e,u.bag] at W;simp at W)
   have e3:j.heap[y i]? =t.heap[y i]? :=Q.block _ (ah V) (fun e=>by
    obtain ⟨X,z,x⟩:=U.tag e;unfold dL at V;rw [V] at x
    simp at x)
   obtain ⟨_,v1,x1,b1,_⟩:=v.out.mail i o;exact e4.trans (e3.trans (f.block _ (ah b1)))
  refine ⟨a,n,c,j,hr,by rw [Lib.cell_of_heap u.bag];rfl,Lib.frozen_of_heap u.bag 0,rfl,y,.slice a n c,⟨A4,R3.chg (aH.same H) (fun g Z e=>a0 (by rw [←e];exact Z)),fun i o=>?_,Nat.le_trans E.out.kn D.out.1⟩,?_,?_⟩
  ·obtain ⟨C,x,h4,h5⟩:=J.out (bV S) E.out.due i o;rw [D.out.2 i o] at h4 h5;exact ⟨C,(r i o).trans x,h4,h5⟩
  ·exact ((K2.mono (fun k _ e=> .inl e)).trans Q (fun _ _ e=> .inr e)).trans (aH.same H) (fun k _ e=> .inl (.inl e))
  ·intro k F
   rcases F with F | F
   ·exact (L.out k (fM.keep (fun i o=>r i o) F)).imp .inl id
   ·rcases O3 k F with e | e
    ·exact .inl (.inr e)
    ·exact .inr (Nat.le_trans K2.size e))
 subst ev
 go_region_law (first
  | (refine gD rfl _ _ 114 9 rfl _ _ _ j rfl rfl a1.out ?_)
  | (go_simp;go_at_call 173;refine O.out.mono ?_;rintro e t ⟨rfl,f⟩;obtain ⟨a3,n3,c3,j,p,p0,f0,R5⟩:=B.out t f;have d2:t.cell? ⟨d,0,none⟩=some (.slice av b.length cv):=(by rw [Lib.cell_of_heap (v.out.keep f).bag];rfl);have a1:=Lib.hid p;have N:=Lib.hid R5;clear p R5 f;dsimp only))
 all_goals
  go_wp2_with fail
  go_ret;exact N.out
theorem tL [Kn] (b c:Nat) (q:Nat→Nat) (d:Value) (S:aa) (a:List UInt8) (m:aX) (n:Int) (w:World) (h:fv w b c q d S a) (k:(cA m).length≤1048568) (j:a.length≤1073741824) (p:w.cell? ⟨0,0,none⟩=some (.int .i64 n)) (r:S.items.length < 4294967295) (g:bP (cA m)=some m) (l:m.id=S.items.length+1) (o:S.time≤m.time):
  Calls Tryz.prog 123 #[.pointer (some ⟨b,0,none⟩),.string (bs (cA m))] w fun e s=>e= .returned (.bool true)∧jm b c q d S a m w s:=
 (kY b c q d S (S.plus m) a (cA m) m.time w h (pn.of h.kn (by rw [dv];omega) (fun i f=>je f) (fun i f k=>by
  have:=bq f;rw [dv] at this;obtain rfl:i=S.items.length:=by omega
  rw [dN])) k j (tK 0 b c q d S (cA m) m n w h.inn (by omega) p r g l o)).mono fun _ _ h=>h
theorem fv.below [Kn] {w e:World} {pb c:Nat} {q:Nat→Nat} {d:Value} {S:aa} {a:List UInt8} (h:fv w pb c q d S a) (b:Below w.heap.size w e):fv e pb c q d S a:=⟨h.inn.keep b,h.row.below b,h.due.below b,h.kn⟩
def eJ (S:aa) (frm:List UInt8) (tos:List (List UInt8)) (body:List UInt8):aX:=⟨S.items.length+1,S.time,frm,tos,body⟩
theorem qS {m:aX} (a:dQ m):(cA m).length≤1200000:=by
 obtain ⟨c,d,e,f,b,g⟩:=a;have:=vV m.tos b;unfold cA jC;simp only [List.length_cons,List.length_append,bf];omega
theorem Jd [Kn] (k I:Nat) (q:Nat→Nat) (J u:Value) (S:aa) (a d b:List UInt8) (c:List (List UInt8)) (g:Int) (w:World) (h:fv w k I q J S a) (t:bg w u c.length 1 (aB c)) (m:dQ (eJ S d c b)) (F:a.length≤1073741824) (f:g < ((a.length+(8+(cA (eJ S d c b)).length):Nat):Int)):
  Calls Tryz.prog 195 #[.pointer (some ⟨k,0,none⟩),.string (bs d),u,.string (bs b),.int .i64 g] w fun e v=>e= .returned (.tuple #[.int .i64 0,.bool false])∧Below w.heap.size w v:=by
 have j:=Lib.hid (oH (S.items.length+1) S.time d c b u w t m);have s:=qS m;have L:w.cell? ⟨k,1,none⟩=some (.int .i64 S.time):=by rw [Lib.cell_of_heap h.inn.bag];rfl
 have M:w.cell? ⟨k,2,none⟩=some (.int .i64 S.items.length):=by rw [Lib.cell_of_heap h.inn.bag];rfl
 obtain ⟨K,N,C⟩:=aE t;obtain ⟨z,A,B⟩:=h.row.len;subst C B;have E:S.items.length+1≤4294967295:=m.1;have G:IntKind.i64.wrap ((S.items.length:Int)+1)=((S.items.length+1:Nat):Int):=by rw [IntKind.wrap_i64];omega
 obtain ⟨l,r⟩:∃l,cA (eJ S d c b)=l:=⟨_,rfl⟩;rw [r] at s f;rw [show cA ⟨S.items.length+1,S.time,d,c,b⟩=l from r] at j;have H:IntKind.i64.wrap ((a.length:Int)+(8+(l.length:Int)))=(a.length:Int)+(8+(l.length:Int)):=by rw [IntKind.wrap_i64];omega
 have o:=Lib.hid h.inn.bag;have p:Hid (∀W:World,Calls Tryz.prog 234 #[.string (bs l)] W fun e v=>e= .returned (.int .i64 ((8+l.length:Nat):Int))∧W=v):=Lib.hid (fun W=>rQ l W (by omega));have D:g < (a.length:Int)+(8+(l.length:Int)):=by omega
 clear h t m r f;go_enter Tryz.func195,Tryz.ntmps195;go_wp2_with fail
 refine j.out.mono ?_;rintro e x ⟨rfl,i⟩;have y:=ae i o.out;have O:x.drew.cell? ⟨k,0,none⟩=some (.slice z a.length A):=by show x.cell? _=_;rw [Lib.cell_of_heap y];rfl
 have n:=Lib.hid i;clear y i;go_wp2_with fail
 go_region_law (first
  | (go_simp;go_at_call 234;refine (p.out x.drew).mono ?_;rintro e P ⟨rfl,rfl⟩;dsimp only))
 all_goals
  go_wp2_with fail
  go_ret2
  exact ⟨rfl,n.out.trans ((Below.refl _ _).drew)⟩
theorem G5 [Kn] (j r:Nat) (q:Nat→Nat) (B O:Value) (S:aa) (b d a:List UInt8) (c:List (List UInt8)) (g:Int) (n:Int) (w:World) (h:fv w j r q B S b) (M:bg w O c.length 1 (aB c)) (x:dQ (eJ S d c a)) (L:b.length≤1073741824) (i:¬g < ((b.length+(8+(cA (eJ S d c a)).length):Nat):Int)) (a1:g≤1000000) (J:w.cell? ⟨0,0,none⟩=some (.int .i64 n)) (v:bP (cA (eJ S d c a))=some (eJ S d c a)):
  Calls Tryz.prog 195 #[.pointer (some ⟨j,0,none⟩),.string (bs d),O,.string (bs a),.int .i64 g] w fun e y=>e= .returned (.tuple #[.int .i64 ((S.items.length:Int)+1),.bool true])∧jm j r q B S b (eJ S d c a) w y:=by
 have t:Hid (∀W:World,Below w.heap.size w W→Calls Tryz.prog 123 #[.pointer (some ⟨j,0,none⟩),.string (bs (cA (eJ S d c a)))] W fun e y=>e= .returned (.bool true)∧jm j r q B S b (eJ S d c a) W y):=Lib.hid (fun W Q=>tL j r q B S b (eJ S d c a) n W (h.below Q) (by omega) L ((Q.cell (aC J)).trans J) (by have:S.items.length+1≤4294967295:=x.1;omega) v rfl (Nat.le_refl _));have R:=Lib.hid h;have s:=Lib.hid (oH (S.items.length+1) S.time d c a O w M x);have K:=qS x;have c1:w.cell? ⟨j,1,none⟩=some (.int .i64 S.time):=by rw [Lib.cell_of_heap h.inn.bag];rfl
 have c2:w.cell? ⟨j,2,none⟩=some (.int .i64 S.items.length):=by rw [Lib.cell_of_heap h.inn.bag];rfl
 obtain ⟨av,cv,Y⟩:=aE M;obtain ⟨G,H,X⟩:=h.row.len;subst Y X;have a0:S.items.length+1≤4294967295:=x.1;have a2:IntKind.i64.wrap ((S.items.length:Int)+1)=((S.items.length+1:Nat):Int):=by rw [IntKind.wrap_i64];omega
 obtain ⟨l,A⟩:∃l,cA (eJ S d c a)=l:=⟨_,rfl⟩;rw [A] at K i;rw [show cA ⟨S.items.length+1,S.time,d,c,a⟩=l from A] at s;have a3:IntKind.i64.wrap ((b.length:Int)+(8+(l.length:Int)))=(b.length:Int)+(8+(l.length:Int)):=by rw [IntKind.wrap_i64];omega
 have D:=Lib.hid h.inn.bag;have F:Hid (∀W:World,Calls Tryz.prog 234 #[.string (bs l)] W fun e y=>e= .returned (.int .i64 ((8+l.length:Nat):Int))∧W=y):=Lib.hid (fun W=>rQ l W (by omega));have Z:¬g < (b.length:Int)+(8+(l.length:Int)):=by omega
 rw [A] at t;clear h M x A i J v;go_enter Tryz.func195,Tryz.ntmps195;go_wp2_with fail
 refine s.out.mono ?_;rintro e z ⟨rfl,o⟩;have P:=ae o D.out;have d0:z.drew.cell? ⟨j,0,none⟩=some (.slice G b.length H):=by show z.cell? _=_;rw [Lib.cell_of_heap P];rfl
 have C:=Lib.hid o;clear P o;go_wp2_with fail
 go_region_law (first
  | (go_simp;go_at_call 234;refine (F.out z.drew).mono ?_;rintro e w2 ⟨rfl,rfl⟩;dsimp only))
 all_goals
  go_wp2_with fail
  have p:Below w.heap.size w z.drew:=C.out.trans ((Below.refl _ _).drew);refine (t.out _ p).mono ?_;rintro e w5 ⟨rfl,u⟩;have E:=Lib.hid u;have m:=Lib.hid p;clear u p;go_wp2_with fail
  go_ret2
  obtain ⟨q',N,V,T,U⟩:=E.out;have f:∀k,an z.drew j r q (.slice G b.length H) S k→an w j r q (.slice G b.length H) S k:=fun k I=>I.imp (fun e=>cR R.out.inn m.out e) id;exact ⟨rfl,q',N,V,((aH.below m.out:aH _ _ _)).trans T (fun k _ e=>f k e),fun k I=>(U k I).imp (f k) (fun e=>Nat.le_trans m.out.size e)⟩
theorem an.lt [Kn] {w:World} {pb mb:Nat} {q:Nat→Nat} {vr:Value} {S:aa} {recs:List UInt8} (h:fv w pb mb q vr S recs) {k:Nat} (j:an w pb mb q vr S k):k < w.heap.size:=by
 rcases j with (e | e | ⟨i,f,e | ⟨C,z,a,d⟩⟩) | e
 ·rw [e];exact h.inn.pblt
 ·rw [e];exact h.inn.mblt
 ·obtain ⟨_,v,x,b,_⟩:=h.inn.mail i f;rw [e];exact ah b
 ·obtain ⟨_,v,x,b,g⟩:=h.inn.mail i f;unfold dL at b;rw [b] at a;injection a with a;injection a with a _ _;rw [←a] at d;exact (g.lt k d).2
 ·exact h.row.lt e
theorem fv.chg [Kn] {B:Nat→Prop} {w l:World} {pb mb:Nat} {q:Nat→Nat} {vr:Value} {S:aa} {recs:List UInt8} (h:fv w pb mb q vr S recs) (j:aH B w l) (f:∀k,an w pb mb q vr S k→¬B k):fv l pb mb q vr S recs∧∀k,an l pb mb q vr S k→an w pb mb q vr S k:=by
 have n:∀i∈S.live,l.heap[q i]? =w.heap[q i]? :=fun i d=>by
  obtain ⟨_,v,x,b,_⟩:=h.inn.mail i d;exact j.block _ (ah b) (f _ (.inl (.inr (.inr ⟨i,d,.inl rfl⟩))))
 refine ⟨⟨⟨j.some_ h.inn.bag (f _ (.inl (.inl rfl))),j.some_ h.inn.map (f _ (.inl (.inr (.inl rfl)))),h.inn.pbb,h.inn.mbb,h.inn.one,fun i d=>?_⟩,h.row.chg j (fun g m=>f g (.inr m)),fun i d=>(h.due i d).imp fun C x=>⟨(n i d).trans x.1,x.2⟩,h.kn⟩,fun k p=>p.imp (fun e=>fM.keep n e) id⟩;obtain ⟨a,v,x,b,o⟩:=h.inn.mail i d;refine ⟨a,v,x,j.some_ b (f _ (.inl (.inr (.inr ⟨i,d,.inl rfl⟩)))),bC o j (fun g m=>f g (.inl (.inr (.inr ⟨i,d,.inr ⟨_,_,b,m⟩⟩))))⟩
def gp [Kn] (A:Nat→Prop) (pp pb mb sb ch:Nat) (vw:Value) (q:Nat→Nat) (vr:Value) (S:aa) (w:World) (s':bG) (S':aa) (recs':List UInt8) (ls':List (List UInt8)) (w':World):Prop:=
 ∃A' q' vr',cI w' A' pp pb sb ch vw ls' s'∧fv w' pb mb q' vr' S' recs'∧(∀k,A k→A' k)∧(∀k,A' k→A k∨w.heap.size≤k)∧(∀k,an w' pb mb q' vr' S' k→an w pb mb q vr S k∨w.heap.size≤k)∧(∀k,A' k→¬an w' pb mb q' vr' S' k)∧aH (fun k=>A k∨an w pb mb q vr S k) w w'
section
variable {A:Nat→Prop} {pp pb mb sb ch:Nat} {vw:Value} {q:Nat→Nat} {vr:Value} {S:aa} {recs:List UInt8} {w:World} {s:bG} {E:Nat→Prop} {c:bX}
theorem gp.step [Kn] {w':World} {m:bG} {d:List (List UInt8)} {e:Ending} (j:fv w pb mb q vr S recs) (l:∀k,A k→¬an w pb mb q vr S k) (h:cP A pp pb sb ch vw w m d e w'):gp A pp pb mb sb ch vw q vr S w m S recs d w':=by
 obtain ⟨_,n,p,r,g,i⟩:=h;obtain ⟨o,f⟩:=j.chg i (fun k b a=>l k a b);exact ⟨n,q,vr,p,o,r,g,fun k b=> .inl (f k b),fun k t b=>(g k t).elim (fun e=>l k e (f k b)) (fun e=>by have:=an.lt j (f k b);omega),i.mono (fun _ _ e=> .inl e)⟩
theorem cI.drop_d {f:List (List UInt8)} (h:cI w A pp pb sb ch vw f s) (u:FrameMode):CallsD Tryz.prog 194 #[.pointer (some ⟨sb,0,none⟩)] u w fun e u' b=>u'=u∧e= .returned (.tuple #[])∧cI b A pp pb sb ch vw f {s with tx:=none}∧aH A w b:=by
 obtain ⟨i,a,j⟩:=h.ex;refine (oa sb i u w (a.cell 8) (a.frozen 8)).mono ?_;rintro e u' b ⟨rfl,rfl,rfl⟩;have d:aL sb w (w.setCell ⟨sb,8,none⟩ (.pointer none)):=(aL.refl _ _).setCell _;exact ⟨rfl,rfl,⟨⟨.pointer none,a.set 8 (by decide) (.pointer none),rfl⟩,h.asb,h.ach,fun k g=>Nat.lt_of_lt_of_le (h.lt k g) (aH.same d).size⟩,(aH.same d).mono (fun k _ e=>by rw [e];exact h.asb)⟩
theorem I9 (h:cI w A pp pb sb ch vw [] s) {t:mK} (B:s.tx=some t) {b:dW} (y:t.body=some b) (j:b.bad=true):
  Calls Tryz.prog 139 #[.pointer (some ⟨sb,0,none⟩)] w (cP A pp pb sb ch vw w {s with tx:=none} [zm]):=by
 obtain ⟨K,d,k⟩:=h.ex;rw [B] at k;obtain ⟨u,J,I,rfl,G,r,F,p⟩:=k;rw [y] at p;obtain ⟨o,L,rfl,z,g,x⟩:=p;have D:w.cell? ⟨sb,8,none⟩=some (.pointer (some ⟨u,0,none⟩)):=d.cell 8;have H:w.cell? ⟨u,2,none⟩=some (.pointer (some ⟨o,0,none⟩)):=r.cell 2;have C:w.cell? ⟨o,2,none⟩=some (.bool true):=by rw [Lib.cell_of_heap g.blk,←j];rfl
 have v:=Lib.hid (h.tell (by simp) [53,48,48,32,119,104,97,116] (by decide));clear h d r g;go_enter_defers Tryz.func139,Tryz.ntmps139
 go_wp2_with fail
 refine v.out.mono ?_;rintro e M ⟨rfl,d,i⟩;have l:=Lib.hid d;have m:=Lib.hid i;clear d i;go_wp2_with fail
 refine leaves_cons (f:=194) (args:=#[.pointer (some ⟨sb,0,none⟩)]) (by simp) (by simp [go_sem]) ?_;refine (l.out.drop_d .returning).mono ?_;rintro e u' N ⟨rfl,rfl,k,n⟩;exact ⟨_,results_none rfl _ _ _,rfl,A,k,fun _ a=>a,fun _ a=> .inl a,m.out.trans n (fun _ _ e=>e)⟩
end
section
variable {A:Nat→Prop} {pp pb mb sb ch:Nat} {vw:Value} {q:Nat→Nat} {vr:Value} {S:aa} {recs:List UInt8} {w:World} {s:bG} {E:Nat→Prop} {c:bX}
theorem GH (h:cI w A pp pb sb ch vw [] s) (y:gg E w pp c) {t:mK} (N:s.tx=some t) {b:dW} (L:t.body=some b) (k:b.bad=false) (z:c.size < (b.text.length:Int)):
  Calls Tryz.prog 139 #[.pointer (some ⟨sb,0,none⟩)] w (cP A pp pb sb ch vw w {s with tx:=none} [uw]):=by
 obtain ⟨vx,i,m⟩:=h.ex;obtain ⟨W,X,Y,Z,B,_⟩:=y.set;rw [N] at m;obtain ⟨C,vt,vb,rfl,U,x,T,v⟩:=m;rw [L] at v;obtain ⟨r,vy,rfl,M,d,K⟩:=v;obtain ⟨H,I,J⟩:=vC d.row;subst J;have Q:w.cell? ⟨sb,0,none⟩=some (.pointer (some ⟨pp,0,none⟩)):=i.cell 0;have R:w.cell? ⟨sb,8,none⟩=some (.pointer (some ⟨C,0,none⟩)):=i.cell 8;have V:w.cell? ⟨C,2,none⟩=some (.pointer (some ⟨r,0,none⟩)):=x.cell 2;have O:w.cell? ⟨r,0,none⟩=some (.slice H b.text.length I):=by rw [Lib.cell_of_heap d.blk];rfl
 have P:w.cell? ⟨r,2,none⟩=some (.bool false):=by rw [Lib.cell_of_heap d.blk,←k];rfl
 have y5:w.cell? ⟨pp,5,none⟩=some (.int .i64 c.size):=(B.cell 5 (by decide)).trans rfl;have F:=Lib.hid h;clear h i x d B y;go_enter_defers Tryz.func139,Tryz.ntmps139
 go_wp2_with fail
 go_quiet (fail)
 have g:=bA nq w w.heap.size;obtain ⟨D,l⟩:∃D,w.drewN nq=D:=⟨_,rfl⟩;rw [l] at g ⊢;have G:=Lib.hid ((F.out.below g).tell (by simp) [53,53,50,32,115,105,122,101] (by decide));have n:=Lib.hid g;clear g l;go_wp2_with fail
 refine G.out.mono ?_;rintro e w1 ⟨rfl,i,j⟩;have o:=Lib.hid i;have p:=Lib.hid j;clear i j;go_wp2_with fail
 refine leaves_cons (f:=194) (args:=#[.pointer (some ⟨sb,0,none⟩)]) (by simp) (by simp [go_sem]) ?_;refine (o.out.drop_d .returning).mono ?_;rintro e u' w2 ⟨rfl,rfl,m,u⟩;exact ⟨_,results_none rfl _ _ _,rfl,A,m,fun _ a=>a,fun _ a=> .inl a,((aH.below n.out:aH A _ _).trans p.out (fun _ _ e=>e)).trans u (fun _ _ e=>e)⟩
def G4 [Kn] (S:aa) (recs:List UInt8) (pb mb:Nat) (q:Nat→Nat) (vr:Value) (m:aX) (W:World) (id:Int) (ok:Bool) (w':World):Prop:=
 (ok=false∧Below W.heap.size W w')∨(ok=true∧id=(S.items.length:Int)+1∧jm pb mb q vr S recs m W w')
theorem jm.from [Kn] {m:aX} {W g:World} (h:fv w pb mb q vr S recs) (d:Below w.heap.size w W) (b:jm pb mb q vr S recs m W g):jm pb mb q vr S recs m w g:=by
 obtain ⟨n,f,l,i,j⟩:=b;have a:∀k,an W pb mb q vr S k→an w pb mb q vr S k:=fun k b=>b.imp (fun e=>cR h.inn d e) id;exact ⟨n,f,l,(aH.below d:aH _ _ _).trans i (fun k _ e=>a k e),fun k b=>(j k b).imp (a k) (fun e=>Nat.le_trans d.size e)⟩
theorem G4.chg [Kn] {m:aX} {a:World} {b:Int} {d:Bool} (h:G4 S recs pb mb q vr m w b d a):aH (an w pb mb q vr S) w a:=by
 rcases h with ⟨_,h⟩ | ⟨_,_,_,_,_,h,_⟩
 ·exact aH.below h
 ·exact h
def jt (c:bX) (recs:List UInt8) (m:aX):Bool:= !decide (c.room < ((recs.length+(8+(cA m).length):Nat):Int))
theorem GG [Kn] (h:cI w A pp pb sb ch vw [] s) (V:gg E w pp c) (B:fv w pb mb q vr S recs) {t:mK} (ht:s.tx=some t) {b:dW} (hb:t.body=some b) (a9:b.bad=false) (d8:¬c.size < (b.text.length:Int)) (hz:dQ (eJ S t.frm t.tos b.text)) (P:recs.length≤1073741824) (b4:bP (cA (eJ S t.frm t.tos b.text))=some (eJ S t.frm t.tos b.text)) (d:∀k,A k→¬an w pb mb q vr S k) (N:∀k,E k→¬an w pb mb q vr S k) (G:∀k,E k→¬A k):
  Calls Tryz.prog 139 #[.pointer (some ⟨sb,0,none⟩)] w fun e j=>e= .returned (.tuple #[])∧
   (if jt c recs (eJ S t.frm t.tos b.text) then gp A pp pb mb sb ch vw q vr S w {s with tx:=none} (S.plus (eJ S t.frm t.tos b.text)) (recs++bJ (cA (eJ S t.frm t.tos b.text))) [[50,53,48,32,107,101,112,116,32]++Lib.itoa ((S.items.length:Int)+1)++[13,10]] j else gp A pp pb mb sb ch vw q vr S w {s with tx:=none} S recs [CR] j):=by
 obtain ⟨vx,T,h2⟩:=h.ex;obtain ⟨vD,vN,vU,vW,hs,_⟩:=V.set;obtain ⟨m,hm⟩:=V.len;rw [ht] at h2;obtain ⟨r,vt,vb,rfl,ha,U,hO,hB⟩:=h2;rw [hb] at hB;obtain ⟨J,vy,rfl,d3,n,d1⟩:=hB;obtain ⟨ay,cy,ey⟩:=vC n.row;have a7:=dT.ofF n.row;subst ey;obtain ⟨u,ct,et⟩:=aE (aF U.row);subst et;have c0:w.cell? ⟨sb,0,none⟩=some (.pointer (some ⟨pp,0,none⟩)):=T.cell 0;have c1:w.cell? ⟨sb,1,none⟩=some (.pointer (some ⟨pb,0,none⟩)):=T.cell 1;have c8:w.cell? ⟨sb,8,none⟩=some (.pointer (some ⟨r,0,none⟩)):=T.cell 8;have t0:w.cell? ⟨r,0,none⟩=some (.string (bs t.frm)):=U.cell 0;have t1:w.cell? ⟨r,1,none⟩=some (.slice u t.tos.length ct):=U.cell 1;have t2:w.cell? ⟨r,2,none⟩=some (.pointer (some ⟨J,0,none⟩)):=U.cell 2;have b0:w.cell? ⟨J,0,none⟩=some (.slice ay b.text.length cy):=by rw [Lib.cell_of_heap n.blk];rfl
 have b2:w.cell? ⟨J,2,none⟩=some (.bool false):=by rw [Lib.cell_of_heap n.blk,←a9];rfl
 have y5:w.cell? ⟨pp,5,none⟩=some (.int .i64 c.size):=(hs.cell 5 (by decide)).trans rfl;have y8:w.cell? ⟨pp,8,none⟩=some (.int .i64 c.room):=(hs.cell 8 (by decide)).trans rfl;have d5:=(ly V.may).2.2.2;obtain ⟨Q,y⟩:∃Q,jt c recs (eJ S t.frm t.tos b.text)=Q:=⟨_,rfl⟩;have d9:S.items.length+1≤4294967295:=hz.1
 have a3:Hid (∀W:World,Below w.heap.size w W→Calls Tryz.prog 195 #[.pointer (some ⟨pb,0,none⟩),.string (bs t.frm),.slice u t.tos.length ct,.string (bs b.text),.int .i64 c.room] W fun e j=>∃id,e= .returned (.tuple #[.int .i64 id,.bool Q])∧G4 S recs pb mb q vr (eJ S t.frm t.tos b.text) w id Q j):=Lib.hid (fun W l=>by
  have F:fv W pb mb q vr S recs:=B.below l;have a8:=(aF U.row).below l
  by_cases i:c.room < ((recs.length+(8+(cA (eJ S t.frm t.tos b.text)).length):Nat):Int)
  ·have C:Q=false:=by rw [←y];unfold jt;rw [decide_eq_true i];rfl
   subst C;refine (Jd pb mb q vr _ S recs t.frm b.text t.tos c.room W F a8 hz P i).mono ?_;rintro e j ⟨rfl,L⟩;exact ⟨0,rfl,.inl ⟨rfl,l.trans (L.mono l.size)⟩⟩
  ·have C:Q=true:=by rw [←y];unfold jt;rw [decide_eq_false i];rfl
   subst C;refine (G5 pb mb q vr _ S recs t.frm b.text t.tos c.room m W F a8 hz P i d5 ((l.cell (aC hm)).trans hm) b4).mono ?_;rintro e j ⟨rfl,L⟩
   exact ⟨_,rfl,.inr ⟨rfl,rfl,jm.from B l L⟩⟩)
 have HS:Hid (∀W:World,aH (an w pb mb q vr S) w W→W.cell? ⟨sb,0,none⟩=some (.pointer (some ⟨pp,0,none⟩))∧W.cell? ⟨sb,1,none⟩=some (.pointer (some ⟨pb,0,none⟩))∧W.cell? ⟨r,0,none⟩=some (.string (bs t.frm))∧W.cell? ⟨r,1,none⟩=some (.slice u t.tos.length ct)∧W.cell? ⟨r,2,none⟩=some (.pointer (some ⟨J,0,none⟩))∧W.cell? ⟨J,0,none⟩=some (.slice ay b.text.length cy)∧W.cell? ⟨pp,8,none⟩=some (.int .i64 c.room)∧(convert 114 9 (.slice ay b.text.length cy)).run Tryz.prog W= .ok (.string (bs b.text)) W):=Lib.hid (fun W hK=>by
  have R:∀{x o:Nat} {v:Value},w.cell? ⟨x,o,none⟩=some v→¬an w pb mb q vr S x→W.cell? ⟨x,o,none⟩=some v:=fun e hn=>(World.cell?_of_block (hK.block _ (aC e) hn)).trans e
  exact ⟨R c0 (d _ h.asb),R c1 (d _ h.asb),R t0 (d _ ha),R t1 (d _ ha),R t2 (d _ ha),R b0 (d _ d3),R y8 (N _ V.epp),(a7.chg hK (fun g hg=>d g (d1 g hg))).string⟩)
 have HH:=Lib.hid h;have HE:=Lib.hid V;have b8:=Lib.hid B;have I:=Lib.hid d;have d0:=Lib.hid N;have d7:=Lib.hid G;rw [y];clear h T U n hs V B hz P a7 b4 d N G hm y;go_enter_defers Tryz.func139,Tryz.ntmps139
 go_wp2_with fail
 go_quiet (fail)
 have p:=bA nq w w.heap.size;obtain ⟨X,b5⟩:∃X,w.drewN nq=X:=⟨_,rfl⟩;rw [b5] at p ⊢;have a6:=a3.out _ (p.trans ((Below.refl w.heap.size X).drew));have a2:=Lib.hid a6;have C0:Hid (aH (an w pb mb q vr S) w X):=Lib.hid (aH.below p);have C1:Hid (aH (an w pb mb q vr S) w X.drew):=Lib.hid (aH.below (p.trans ((Below.refl w.heap.size X).drew)));obtain ⟨s0,s1,s2,s3,s4,s5,s6,s7⟩:=HS.out _ C0.out;clear p b5 c0 c1 c8 t0 t1 t2 b0 b2 y5 y8 a6 a3;go_wp2_with fail
 go_region_held3 (fun j=>j.cell? ⟨sb,0,none⟩=some (.pointer (some ⟨pp,0,none⟩))∧j.cell? ⟨sb,1,none⟩=some (.pointer (some ⟨pb,0,none⟩))∧j.cell? ⟨r,0,none⟩=some (.string (bs t.frm))∧j.cell? ⟨r,1,none⟩=some (.slice u t.tos.length ct)∧j.cell? ⟨r,2,none⟩=some (.pointer (some ⟨J,0,none⟩))∧j.cell? ⟨J,0,none⟩=some (.slice ay b.text.length cy)∧j.cell? ⟨pp,8,none⟩=some (.int .i64 c.room)∧(convert 114 9 (.slice ay b.text.length cy)).run Tryz.prog j= .ok (.string (bs b.text)) j)
  (first | exact HS.out _ C5.out | exact HS.out _ C1.out | exact HS.out _ C0.out)
  (first
   | (go_at_call 195;refine a2.out.mono ?_;rintro e w5 ⟨id,rfl,O⟩;have C5:=Lib.hid O.chg;have H:=Lib.hid O;clear O))
 have c3:=Lib.hid (HH.out.chg C5.out I.out);have c2:=Lib.hid (HE.out.chg C5.out d0.out);clear HS C0 C1 a2 s0 s1 s2 s3 s4 s5 s6 s7
 cases Q with
 | false=>
  have Z:Hid (Below w.heap.size w w5):=Lib.hid (by
   rcases H.out with ⟨_,h⟩ | ⟨h,_⟩
   ·exact h
   ·cases h)
  have HT:=Lib.hid ((HH.out.below Z.out).tell (by simp) [52,53,50,32,114,111,111,109] (by decide));go_wp2_with fail
  refine HT.out.mono ?_;rintro e w6 ⟨rfl,h6,a5⟩;have c4:=Lib.hid h6;have c6:=Lib.hid a5;clear h6 a5;go_wp2_with fail
  refine leaves_cons (f:=194) (args:=#[.pointer (some ⟨sb,0,none⟩)]) (by simp) (by simp [go_sem]) ?_;refine (c4.out.drop_d .returning).mono ?_;rintro e u' w7 ⟨rfl,rfl,h7,z⟩;refine ⟨_,results_none rfl _ _ _,rfl,?_⟩;exact gp.step (e:= .returned (.tuple #[])) b8.out I.out ⟨rfl,A,h7,fun _ a=>a,fun _ a=> .inl a,((aH.below Z.out:aH A _ _).trans c6.out (fun _ _ e=>e)).trans z (fun _ _ e=>e)⟩
 | true=>
  obtain ⟨b3,c9⟩:id=(S.items.length:Int)+1∧Hid (jm pb mb q vr S recs (eJ S t.frm t.tos b.text) w w5):=by
   rcases H.out with ⟨h,_⟩ | ⟨_,T,h2⟩
   ·cases h
   ·exact ⟨T,Lib.hid h2⟩
  subst b3
  have d4:(Lib.itoa ((S.items.length:Int)+1)).length≤10:=by
   unfold Lib.itoa;rw [if_neg (by omega)];exact kZ _ 9 (by omega)
  have a1:=Lib.hid (AP ((S.items.length:Int)+1) (by omega) (by omega) w5 c2.out.pow);have D:(⟨#[50,53,48,32,107,101,112,116,32]⟩:ByteArray)++bs (Lib.itoa ((S.items.length:Int)+1))=bs ([50,53,48,32,107,101,112,116,32]++Lib.itoa ((S.items.length:Int)+1)):=cE [50,53,48,32,107,101,112,116,32] _;have Y:=Lib.hid D;have d6:=aG (Lib.itoa ((S.items.length:Int)+1));obtain ⟨it,K⟩:∃it,Lib.itoa ((S.items.length:Int)+1)=it:=⟨_,rfl⟩;rw [K] at d4 a1 Y d6;have a0:=Lib.hid K;clear D K H;go_wp2_with fail
  refine a1.out.mono ?_;rintro e w6 ⟨rfl,M⟩;have b7:=Lib.hid M;have HT:=Lib.hid ((c3.out.below M).tell (by simp) ([50,53,48,32,107,101,112,116,32]++it) (by rw [List.length_append];simp;omega));clear M;go_wp2_with fail
  rw [Y.out];refine HT.out.mono ?_;rintro e w7 ⟨rfl,h7,z⟩;have c5:=Lib.hid h7;have c7:=Lib.hid z;clear h7 z;go_wp2_with fail
  refine leaves_cons (f:=194) (args:=#[.pointer (some ⟨sb,0,none⟩)]) (by simp) (by simp [go_sem]) ?_;refine (c5.out.drop_d .returning).mono ?_;rintro e u' w8 ⟨rfl,rfl,h8,d2⟩;refine ⟨_,results_none rfl _ _ _,rfl,?_⟩;obtain ⟨q',b6,R5,K5,O5⟩:=c9.out;have a4:aH A w5 w8:=((aH.below b7.out:aH A _ _).trans c7.out (fun _ _ e=>e)).trans d2 (fun _ _ e=>e);have b1:∀k,an w5 pb mb q' b6 (S.plus (eJ S t.frm t.tos b.text)) k→¬A k:=fun k C a=>(O5 k C).elim (fun e=>I.out k a e) (fun e=>by have:=HH.out.lt k a;omega);obtain ⟨R8,O8⟩:=R5.chg a4 b1;rw [a0.out];exact ⟨A,q',b6,h8,R8,fun _ a=>a,fun _ a=> .inl a,fun k C=>O5 k (O8 k C),fun k a C=>b1 k (O8 k C) a,(K5.mono (fun _ _ e=> .inr e)).trans a4 (fun _ _ e=> .inl e)⟩
end
structure tA (t:mK):Prop where
 frm:t.frm=[]∨dH t.frm=true
 tos:∀x∈t.tos,dH x=true
 one:t.tos.Nodup
 most:t.tos.length≤10
 body:∀b,t.body=some b→1≤t.tos.length∧b.text.length≤1102
structure oJ (S:aa) (recs:List UInt8):Prop where
 time:S.time≤1000000000
 len:S.items.length+1≤4294967295
 recs:recs.length≤1073741824
theorem mY {l:List UInt8} (h:dH l=true):l.length≤61:=by
 unfold dH at h;rw [Bool.and_eq_true,beq_iff_eq] at h;have:=xv l;rw [←h.2];unfold jb;simp only [List.length_append,List.length_cons];omega
theorem FL {a:List (List UInt8)} (h:1≤a.length) (i:a.length≤10) (l:∀x∈a,dH x=true) (m:a.Nodup):iH a=true:=by
 unfold iH;rw [decide_eq_true h,decide_eq_true i];simp only [Bool.true_and,List.all_eq_true,List.mem_range];intro k f;have e:∀j (d:j < a.length),a.getD j []=a[j]:=fun j d=>by rw [List.getD_eq_getElem?_getD,List.getElem?_eq_getElem d];rfl
 unfold oG yW;rw [Bool.and_eq_true];refine ⟨by rw [e k f];exact l _ (List.getElem_mem f),?_⟩
 simp only [List.all_eq_true,List.mem_range,Bool.not_eq_true',beq_eq_false_iff_ne];intro j d;rw [e j (by omega),e k f];intro g;have:=(List.nodup_iff_pairwise_ne.1 m);rw [List.pairwise_iff_getElem] at this;exact this j k (by omega) f d g
section
variable {S:aa} {recs:List UInt8} {t:mK} {b:dW}
theorem td (d:oJ S recs) (a:tA t) (f:t.body=some b):dQ (eJ S t.frm t.tos b.text):=by
 have g:t.frm.length≤255:=by
  rcases a.frm with e | e
  ·rw [e];simp
  ·have:=mY e;omega
 have i:=a.most;have j:=(a.body b f).2;have k:=d.time;exact ⟨d.len,by show S.time≤_;omega,g,by show t.tos.length≤_;omega,fun x h=>by have:=mY (a.tos x h);omega,by show b.text.length≤_;omega⟩
theorem Bn (j:oJ S recs) (a:tA t) (i:t.body=some b) (p:b.text.length≤1000):bP (cA (eJ S t.frm t.tos b.text))=some (eJ S t.frm t.tos b.text):=by
 have u:=td j a i;obtain ⟨y,z,B,C,v,D⟩:=u;have g:=a.body b i;have d:tu (eJ S t.frm t.tos b.text):=⟨by omega,by omega,by omega,by omega,fun x r=>by have:=v x r;omega,by show b.text.length < _;omega⟩
 have f:dr (eJ S t.frm t.tos b.text)=true:=by
  unfold dr;have k:decide ((eJ S t.frm t.tos b.text).time≤1000000000)=true:=decide_eq_true j.time
  have m:((eJ S t.frm t.tos b.text).frm.isEmpty || dH (eJ S t.frm t.tos b.text).frm)=true:=by
   show (t.frm.isEmpty || dH t.frm)=true
   rcases a.frm with e | e
   ·rw [e];rfl
   ·rw [e,Bool.or_true]
  have n:iH (eJ S t.frm t.tos b.text).tos=true:=FL g.1 a.most a.tos a.one;have o:decide ((eJ S t.frm t.tos b.text).body.length≤1000)=true:=decide_eq_true p;rw [k,m,n,o];rfl
 obtain ⟨l,h⟩:∃l,cA (eJ S t.frm t.tos b.text)=77::l:=⟨_,rfl⟩;rw [h];unfold bP;simp only [if_true];rw [xV d h];simp [f]
end
def kz (c:bX) (s:bG) (S:aa) (recs:List UInt8) (t:mK) (b:dW):bG×aa×List UInt8×List (List UInt8):=
 if b.bad then ({s with tx:=none},S,recs,[zm])
 else if c.size < (b.text.length:Int) then ({s with tx:=none},S,recs,[uw])
 else if jt c recs (eJ S t.frm t.tos b.text) then ({s with tx:=none},S.plus (eJ S t.frm t.tos b.text),recs++bJ (cA (eJ S t.frm t.tos b.text)),[[50,53,48,32,107,101,112,116,32]++Lib.itoa ((S.items.length:Int)+1)++[13,10]])
 else ({s with tx:=none},S,recs,[CR])
def dn (c:bX) (s:bG) (S:aa) (recs:List UInt8) (t:mK) (b:dW) (text:List UInt8) (bad:Bool):bG×aa×List UInt8×List (List UInt8):=
 if text=[46] then kz c s S recs t b else ({s with tx:=some {t with body:=some (b.add text bad c.size)}},S,recs,[])
section
variable {A:Nat→Prop} {pp pb mb sb ch:Nat} {vw:Value} {q:Nat→Nat} {vr:Value} {S:aa} {recs:List UInt8} {w:World} {s:bG} {E:Nat→Prop} {c:bX}
theorem I8 [Kn] (h:cI w A pp pb sb ch vw [] s) (r:gg E w pp c) (g:fv w pb mb q vr S recs) (u:oJ S recs) {t:mK} (v:s.tx=some t) (n:tA t) {b:dW} (j:t.body=some b) (i:∀k,A k→¬an w pb mb q vr S k) (p:∀k,E k→¬an w pb mb q vr S k) (l:∀k,E k→¬A k):
  Calls Tryz.prog 139 #[.pointer (some ⟨sb,0,none⟩)] w fun e o=>e= .returned (.tuple #[])∧gp A pp pb mb sb ch vw q vr S w (kz c s S recs t b).1 (kz c s S recs t b).2.1 (kz c s S recs t b).2.2.1 (kz c s S recs t b).2.2.2 o:=by
 unfold kz
 cases d:b.bad with
 | true=>
  refine (I9 h v j d).mono ?_;intro e o f;exact ⟨f.1,gp.step g i f⟩
 | false=>
  by_cases a:c.size < (b.text.length:Int)
  ·simp only [a,if_true];refine (GH h r v j d a).mono ?_;intro e o f;exact ⟨f.1,gp.step g i f⟩
  ·simp only [a,if_false];have x:b.text.length≤1000:=by have:=(ly r.may).2.1;omega
   refine (GG h r g v j d a (td u n j) u.recs (Bn u n j x) i p l).mono ?_;rintro e o ⟨rfl,f⟩;refine ⟨rfl,?_⟩
   cases m:jt c recs (eJ S t.frm t.tos b.text) with
   | true=>rw [m] at f;exact f
   | false=>rw [m] at f;exact f
theorem E4 [Kn] (h:cI w A pp pb sb ch vw [] s) (C:gg E w pp c) (j:fv w pb mb q vr S recs) (l:oJ S recs) {t:mK} (I:s.tx=some t) (x:tA t) {b:dW} (H:t.body=some b) (r:∀k,A k→¬an w pb mb q vr S k) (u:∀k,E k→¬an w pb mb q vr S k) (f:∀k,E k→¬A k) (i:Bool):
  Calls Tryz.prog 101 #[.pointer (some ⟨sb,0,none⟩),.agg #[.string (bs [46]),.bool i]] w fun e R=>e= .returned (.tuple #[])∧gp A pp pb mb sb ch vw q vr S w (kz c s S recs t b).1 (kz c s S recs t b).2.1 (kz c s S recs t b).2.2.1 (kz c s S recs t b).2.2.2 R:=by
 obtain ⟨n,p⟩:∃n:World,w.alloc (.cells #[.string (bs [46]),.bool i] 138)=n:=⟨_,rfl⟩;have m:Below w.heap.size w n:=by rw [←p];exact (Below.refl _ _).alloc (Nat.le_refl _) _
 have z:n.heap[w.heap.size]? =some (.cells #[.string (bs [46]),.bool i] 138 (0,0)):=by rw [←p];exact heap_alloc_new w _
 have T:n.cell? ⟨w.heap.size,0,none⟩=some (.string ⟨#[46]⟩):=by rw [Lib.cell_of_heap z];rfl
 have d:∀k,an n pb mb q vr S k→an w pb mb q vr S k:=fun k l=>l.imp (fun e=>cR j.inn m e) id;have G:=Lib.hid (I8 (h.below m) (C.below m) (j.below m) l I x H (fun k a e=>r k a (d k e)) (fun k a e=>u k a (d k e)) f);have g:=Lib.hid m;have o:=Lib.hid d;clear h C j m z r u f d;go_enter Tryz.func101,Tryz.ntmps101;go_wp2_with fail
 refine G.out.mono ?_;rintro e U ⟨rfl,B⟩;have F:=Lib.hid B;clear B;go_wp2_with fail
 refine bodyPost_ret (v:= .tuple #[]) (by simp [results,Tryz.results101,go_sem]) rfl ?_;obtain ⟨D,Q,y,J,K,L,M,N,O,P⟩:=F.out;exact ⟨rfl,D,Q,y,J,K,L,fun k l=>(M k l).imp id (fun e=>Nat.le_trans g.out.size e),fun k l=>(N k l).imp (o.out k) (fun e=>Nat.le_trans g.out.size e),O,(aH.below g.out:aH _ _ _).trans P (fun k _ e=>e.imp id (o.out k))⟩
theorem E1 (h:cI w A pp pb sb ch vw [] s) (he:gg E w pp c) {t:mK} (ht:s.tx=some t) (b1:tA t) {b:dW} (hb:t.body=some b) (d:List UInt8) (i:Bool) (a9:d≠[46]) (b0:d.length≤1048576):
  Calls Tryz.prog 101 #[.pointer (some ⟨sb,0,none⟩),.agg #[.string (bs d),.bool i]] w (cP A pp pb sb ch vw w {s with tx:=some {t with body:=some (b.add d i c.size)}} []):=by
 obtain ⟨vx,h1,h2⟩:=h.ex;obtain ⟨vD,vN,vU,vW,hs,_⟩:=he.set;rw [ht] at h2;obtain ⟨K,vt,vb,rfl,ha,hT,hO,hB⟩:=h2;rw [hb] at hB;obtain ⟨l,G,rfl,V,N,U⟩:=hB;have b3:=(b1.body b hb).2;obtain ⟨f,O⟩:∃f:World,w.alloc (.cells #[.string (bs d),.bool i] 138)=f:=⟨_,rfl⟩;have H:Below w.heap.size w f:=by rw [←O];exact (Below.refl _ _).alloc (Nat.le_refl _) _
 have X0:f.heap[w.heap.size]? =some (.cells #[.string (bs d),.bool i] 138 (0,0)):=by rw [←O];exact heap_alloc_new w _
 have e0:f.cell? ⟨w.heap.size,0,none⟩=some (.string (bs d)):=by rw [Lib.cell_of_heap X0];rfl
 have e1:f.cell? ⟨w.heap.size,1,none⟩=some (.bool i):=by rw [Lib.cell_of_heap X0];rfl
 have c0:f.cell? ⟨sb,0,none⟩=some (.pointer (some ⟨pp,0,none⟩)):=(h1.below H).cell 0;have c8:f.cell? ⟨sb,8,none⟩=some (.pointer (some ⟨K,0,none⟩)):=(h1.below H).cell 8;have t2:f.cell? ⟨K,2,none⟩=some (.pointer (some ⟨l,0,none⟩)):=by rw [Lib.cell_of_heap (ae H hT.blk)];rfl
 have y5:f.cell? ⟨pp,5,none⟩=some (.int .i64 c.size):=(H.cell (by exact he.lt _ he.epp)).trans ((hs.cell 5 (by decide)).trans rfl);have HH:=Lib.hid h;have a8:((bs d).toList == [46])=false:=by rw [beq_eq_false_iff_ne,ByteArray.toList_eq,aI];exact a9
 have Q:Hid (∀W:World,Below f.heap.size f W→Calls Tryz.prog 140 #[.pointer (some ⟨l,0,none⟩),.agg #[.string (bs d),.bool i],.int .i64 c.size] W fun e L=>e= .returned (.tuple #[])∧∃B,gl L l B (b.add d i c.size)∧aH (fun k=>k=l∨G.ownBlock=some k) W L∧∀k,B.ownBlock=some k→G.ownBlock=some k∨W.heap.size≤k):=Lib.hid (fun W a7=>Ah l G b d i c.size W (N.chg (A:=fun _=>False) (aH.below (H.trans (a7.mono H.size))) (fun e=>e) (fun _ _ e=>e)) (by omega) b0);have m:=Lib.hid H;have H1:=Lib.hid h1;have HT:=Lib.hid hT;have n:=Lib.hid N;have R:=Lib.hid U;have a4:=Lib.hid X0;have a3:Hid (∃D:Array Value,f.heap[pp]? =some (.cells D 88 (0,0))∧True):=Lib.hid (by obtain ⟨D,hD,_⟩:=hs.blk;exact ⟨D,ae H hD,trivial⟩);clear h h1 hT N hs he H X0 U;go_enter Tryz.func101,Tryz.ntmps101;go_wp2_with fail
 have B1:Below f.heap.size f f.drew:=(Below.refl _ _).drew;have a1:=Lib.hid (Q.out _ B1);have b2:=Lib.hid B1
 have M:Hid (∀W:World,aH (fun k=>k=l∨G.ownBlock=some k) f W→W.cell? ⟨w.heap.size,0,none⟩=some (.string (bs d))∧W.cell? ⟨w.heap.size,1,none⟩=some (.bool i)∧W.cell? ⟨sb,0,none⟩=some (.pointer (some ⟨pp,0,none⟩))∧W.cell? ⟨sb,8,none⟩=some (.pointer (some ⟨K,0,none⟩))∧W.cell? ⟨K,2,none⟩=some (.pointer (some ⟨l,0,none⟩))∧W.cell? ⟨pp,5,none⟩=some (.int .i64 c.size)):=Lib.hid (fun W hK=>by
  have P:∀{x o:Nat} {v:Value},f.cell? ⟨x,o,none⟩=some v→(∀C z,f.heap[x]? ≠some (.cells C 253 z))→(∀C z,f.heap[x]? ≠some (.cells C 5 z))→W.cell? ⟨x,o,none⟩=some v:=fun e n1 n2=>(World.cell?_of_block (hK.block _ (aC e) (fun j=>by
   rcases j with j | j
   ·subst j;exact n1 _ _ (ae m.out n.out.blk)
   ·obtain ⟨I,z,F⟩:=gB n.out.row j
    exact n2 _ _ (ae m.out F)))).trans e
  have p:∀{x:Nat} {C:Array Value} {t t':TypeId} {z:Nat×Nat},f.heap[x]? =some (.cells C t z)→t≠t'→∀C' z',f.heap[x]? ≠some (.cells C' t' z'):=fun e hn C' z' j=>by
   rw [e] at j;injection j with j;injection j with _ j _;exact hn j
  obtain ⟨D,hD,_⟩:=a3.out;have hx:=a4.out;have J:=ae m.out H1.out.blk;have a0:=ae m.out HT.out.blk
  exact ⟨P e0 (p hx (by decide)) (p hx (by decide)),P e1 (p hx (by decide)) (p hx (by decide)),P c0 (p J (by decide)) (p J (by decide)),P c8 (p J (by decide)) (p J (by decide)),P t2 (p a0 (by decide)) (p a0 (by decide)),P y5 (p hD (by decide)) (p hD (by decide))⟩)
 have C0:Hid (aH (fun k=>k=l∨G.ownBlock=some k) f f):=Lib.hid (aH.refl _ _);have C1:Hid (aH (fun k=>k=l∨G.ownBlock=some k) f f.drew):=Lib.hid (aH.below B1);clear B1 a8 O
 go_region_held3 (fun L=>L.cell? ⟨w.heap.size,0,none⟩=some (.string (bs d))∧L.cell? ⟨w.heap.size,1,none⟩=some (.bool i)∧L.cell? ⟨sb,0,none⟩=some (.pointer (some ⟨pp,0,none⟩))∧L.cell? ⟨sb,8,none⟩=some (.pointer (some ⟨K,0,none⟩))∧L.cell? ⟨K,2,none⟩=some (.pointer (some ⟨l,0,none⟩))∧L.cell? ⟨pp,5,none⟩=some (.int .i64 c.size))
  (first | exact M.out _ C5.out | exact M.out _ C1.out | exact M.out _ C0.out)
  (first
   | (go_at_call 140;refine a1.out.mono ?_;rintro e w5 ⟨rfl,B,p1,p2,p3⟩;have C5:Hid (aH (fun k=>k=l∨G.ownBlock=some k) f w5):=Lib.hid (C1.out.trans p2 (fun _ _ e=>e));have T:=Lib.hid p1;have a2:=Lib.hid p3;clear p1 p2 p3))
 go_wp2_with fail
 refine bodyPost_end (results_none rfl _ _ _) rfl ?_;have C6:aH (fun k=>k=l∨G.ownBlock=some k) w w5:=(aH.below m.out:aH _ _ _).trans C5.out (fun _ _ e=>e);have Z:∀k,(k=l∨G.ownBlock=some k)→A k:=fun k e=>e.elim (fun e=>by rw [e];exact V) (R.out k)
 have y:∀{k:Nat} {C:Array Value} {t:TypeId} {z:Nat×Nat},w.heap[k]? =some (.cells C t z)→t≠253→t≠5→¬(k=l∨G.ownBlock=some k):=fun e n1 n2 j=>by
  rcases j with j | j
  ·rw [j,n.out.blk] at e;injection e with e;injection e with _ e _;exact n1 e.symm
  ·obtain ⟨I,z,F⟩:=gB n.out.row j;rw [F] at e;injection e with e;injection e with _ e _;exact n2 e.symm
 obtain ⟨sq,r,X⟩:=H1.out.chan
 have a5:bT w5 sb ch (iq pp pb ch vw (.pointer (some ⟨K,0,none⟩)) s) []:=H1.out.chg C6 (y H1.out.blk (by decide) (by decide)) (fun e=>by
  rcases e with e | e
  ·have:=n.out.blk;rw [←e,X] at this;cases this
  ·obtain ⟨I,z,F⟩:=gB n.out.row e
   rw [X] at F;cases F)
 have a6:si w5 K vt (.pointer (some ⟨l,0,none⟩)) t.frm t.tos:=HT.out.chg C6 (y HT.out.blk (by decide) (by decide)) (fun g Y=>by
  obtain ⟨I,F⟩:=dm HT.out.row Y
  exact y F (by decide) (by decide))
 refine ⟨rfl,fun k=>A k∨B.ownBlock=some k,⟨⟨_,a5,K,vt,_,rfl,.inl ha,a6,fun g Y=> .inl (hO g Y),l,B,rfl,.inl V,T.out,fun g Y=> .inr Y⟩,.inl HH.out.asb,.inl HH.out.ach,fun k u=>?_⟩,fun _ a=> .inl a,fun k u=>?_,C6.mono (fun k _ e=>Z k e)⟩
 ·rcases u with u | u
  ·exact Nat.lt_of_lt_of_le (HH.out.lt k u) C6.size
  ·obtain ⟨I,z,F⟩:=gB T.out.row u;exact ah F
 ·rcases u with u | u
  ·exact .inl u
  ·exact (a2.out k u).imp (R.out k) (fun e=>Nat.le_trans m.out.size e)
end
end Go.Proofs.YtofpegbpgkkgkaaGreatDoor
