import Derived.Test.YtofpegbpgkkgkaaGreatDoorS14
import Derived.Test.YtofpegbpgkkgkaaGreatDoorS20
namespace Go.Proofs.YtofpegbpgkkgkaaGreatDoor
set_option maxHeartbeats 8000000
set_option maxRecDepth 1000000
open Go.RowKit
theorem vP (a d l:Nat) (q:Nat→Nat) (n:Value) (S:bp) (m:aX) (v:Value) (w:World) (h:bh a w d l q n S) (B:Nat) (u:w.ownsRow B 9 1 v m.tos.length (cm m.tos)) (L:dQ m) (t:1≤m.tos.length) (K:S.items.length < 4294967295) (s:m.id=S.items.length+1) (J:S.time≤m.time):
  Calls Tryz.prog 115 #[.pointer (some ⟨d,0,none⟩),.agg (aY m v)] w (fR a d l q n S (S.plus m) m.time w):=by
 obtain ⟨b,c⟩:∃b:World,w.alloc (.cells #[.int .i64 m.id,.int .i64 m.time,.string (bs m.frm),v,.string (bs m.body)] 45)=b:=⟨_,rfl⟩;have k:Below w.heap.size w b:=by rw [←c];exact (Below.refl _ _).alloc (Nat.le_refl _) _
 have j:bh a b d l q n S:=h.keep k;have f:b.heap[w.heap.size]? =some (.cells #[.int .i64 m.id,.int .i64 m.time,.string (bs m.frm),v,.string (bs m.body)] 45 (0,0)):=by rw [←c];exact heap_alloc_new w _
 have N:b.cell? ⟨d,1,none⟩=some (.int .i64 S.time):=by rw [Lib.cell_of_heap j.bag];rfl
 have O:b.cell? ⟨d,2,none⟩=some (.int .i64 S.items.length):=by rw [Lib.cell_of_heap j.bag];rfl
 have P:b.cell? ⟨w.heap.size,0,none⟩=some (.int .i64 m.id):=by rw [Lib.cell_of_heap f];rfl
 have Q:b.cell? ⟨w.heap.size,1,none⟩=some (.int .i64 m.time):=by rw [Lib.cell_of_heap f];rfl
 have R:b.cell? ⟨w.heap.size,2,none⟩=some (.string (bs m.frm)):=by rw [Lib.cell_of_heap f];rfl
 have T:b.cell? ⟨w.heap.size,3,none⟩=some v:=by rw [Lib.cell_of_heap f];rfl
 have U:b.cell? ⟨w.heap.size,4,none⟩=some (.string (bs m.body)):=by rw [Lib.cell_of_heap f];rfl
 have A:=Lib.hid h;have i:=Lib.hid j;have o:=Lib.hid k;have p:=Lib.hid c;have C:=Lib.hid (ep u fun g r e _=>ae k e);have D:=Lib.hid L;unfold aY;have V:IntKind.i64.wrap ((S.items.length:Int)+1)=(S.items.length:Int)+1:=by rw [IntKind.wrap_i64];omega
 have W:((m.id:Int) != (S.items.length:Int)+1)=false:=by rw [s];simp
 have x:¬m.time < S.time:=by omega
 have z:=Lib.hid s;clear j f k h c u s J;go_enter Tryz.func115,Tryz.ntmps115;go_wp2_with fail
 rw [p.out];go_quiet (fail)
 go_wp2_with fail
 refine (rA a d l q n S m v _ (i.out.drewN _) B (ep C.out fun g r e _=>ae (bA _ _ _) e) D.out z.out t K).mono ?_;rintro e X ⟨rfl,M,y,E,G,H,F⟩;go_wp2_with fail
 go_ret;obtain ⟨x,I⟩:=zU (i.out.drewN _) t E G H F;exact fR.after A.out (o.out.trans (bA _ _ _)) ⟨rfl,M,y,x,I⟩
theorem tK (a p y:Nat) (q:Nat→Nat) (z:Value) (S:bp) (l:List UInt8) (m:aX) (n:Int) (w:World) (h:bh a w p y q z S) (Q:l.length≤1048576) (F:w.cell? ⟨0,0,none⟩=some (.int .i64 n)) (R:S.items.length < 4294967295) (j:bP l=some m) (D:m.id=S.items.length+1) (E:S.time≤m.time):
  Calls Tryz.prog 75 #[.pointer (some ⟨p,0,none⟩),.string (bs l)] w (fR a p y q z S (S.plus m) m.time w):=by
 have C:=Lib.hid h;have L:=Lib.hid (ka l n w (Nat.le_trans Q (by decide)) F);have c:=Lib.hid j;have I:=Lib.hid D;have J:=Lib.hid E;clear h F j D E;go_enter Tryz.func75,Tryz.ntmps75;go_wp2_with fail
 refine L.out.mono ?_;rintro e A ⟨u,f⟩;have H:=Lib.hid (C.out.keep f);have B:=Lib.hid f;clear f
 rcases u with ⟨i,rfl⟩ | ⟨U,v,i,rfl,x,G⟩
 ·rw [c.out] at i;cases i
 ·rw [c.out] at i;injection i with i;subst i;have b:=rL (oD c.out);obtain ⟨N,T,P,rfl⟩:=kj x;obtain ⟨o,d⟩:∃o:World,A.alloc (.cells #[.int .i64 m.id,.int .i64 m.time,.string (bs m.frm),.slice N T P,.string (bs m.body)] 45)=o:=⟨_,rfl⟩;have k:Below A.heap.size A o:=by rw [←d];exact (Below.refl _ _).alloc (Nat.le_refl _) _
  have M:=Lib.hid (vP a p y q z S m _ o (H.out.keep k) _ (ep x fun g O e _=>ae k e) G b.1 R I.out J.out);have r:=Lib.hid (B.out.trans (k.mono B.out.size));have s:=Lib.hid d;simp only [aY];clear b k d x G;go_wp2_with fail
  rw [s.out];refine M.out.mono ?_;intro e V t;obtain ⟨rfl,_⟩:=id t;have K:=Lib.hid (fR.after C.out r.out t);clear t;go_wp2_with fail
  go_ret;exact K.out
structure fv [Kn] (w:World) (pb mb:Nat) (q:Nat→Nat) (vr:Value) (S:bp) (recs:List UInt8):Prop where
 inn:bh 0 w pb mb q vr S
 row:dT w vr recs
 due:jk w q S.live (bV S)
 kn:Kn.n0≤S.items.length
def an (w:World) (pb mb:Nat) (q:Nat→Nat) (vr:Value) (S:bp) (k:Nat):Prop:=fM w pb mb q S k∨vr.ownBlock=some k
def jm [Kn] (pb mb:Nat) (q:Nat→Nat) (vr:Value) (S:bp) (recs:List UInt8) (m:aX) (w w':World):Prop:=
 ∃q' vr',fv w' pb mb q' vr' (S.plus m) (recs++bJ (k9 m))∧aH (an w pb mb q vr S) w w'∧∀k,an w' pb mb q' vr' (S.plus m) k→an w pb mb q vr S k∨w.heap.size≤k
theorem Dq {w:World} {a f j:Nat} {q:Nat→Nat} {c:Value} {S:bp} {b:List UInt8} (h:bh a w f j q c S) (i:dT w c b):c.ownBlock≠some f:=fun e=>by
 obtain ⟨g,z,d⟩:=i.tag e;rw [h.bag] at d;simp at d
theorem Ij {w:World} {a j f:Nat} {q:Nat→Nat} {c:Value} {S:bp} {b:List UInt8} (h:bh a w j f q c S) (i:dT w c b):c.ownBlock≠some f:=fun e=>by
 obtain ⟨g,z,d⟩:=i.tag e;have:=h.map;unfold gh at this;rw [this] at d;simp at d
theorem bh.row {d s p:Nat} {q:Nat→Nat} {l:Value} {S:bp} {j:List UInt8} {w w':World} (h:bh d w s p q l S) (o:dT w l j) (m:aH (fun k=>l.ownBlock=some k) w w'):bh d w' s p q l S:=by
 have r:∀{k:Nat} {C:Array Value} {t:TypeId} {z:Nat×Nat},w.heap[k]? =some (.cells C t z)→t≠5→l.ownBlock≠some k:=fun e A u=>by
  obtain ⟨n,B,f⟩:=o.tag u;rw [e] at f;injection f with f;injection f with _ f _;exact A f
 refine ⟨m.some_ h.bag (Dq h o),m.some_ h.map (Ij h o),h.pbb,h.mbb,h.one,fun i y=>?_⟩;obtain ⟨a,v,x,b,c⟩:=h.mail i y;exact ⟨a,v,x,m.some_ b (r b (by decide)),ep c fun g n e _=>m.some_ e (r e (by decide))⟩
theorem BB {c s r:Nat} {q:Nat→Nat} {o:Value} {S:bp} {f:List UInt8} {w:World} (h:bh c w s r q o S) (m:dT w o f) {g:Nat} (l:o.ownBlock=some g):¬fM w s r q S g:=by
 intro e;obtain ⟨u,z,n⟩:=m.tag l
 rcases e with e | e | ⟨i,B,e⟩
 ·exact Dq h m (by rw [←e];exact l)
 ·exact Ij h m (by rw [←e];exact l)
 ·obtain ⟨_,v,x,k,D⟩:=h.mail i B;unfold dL at k
  rcases e with e | ⟨C,E,a,b⟩
  ·rw [e,k] at n;simp at n
  ·rw [k] at a;injection a with a;injection a with a;subst a;have b:v.ownBlock=some g:=b
   rcases D.2 with ⟨j,_⟩ | ⟨A,t,p,j,_,d,_⟩
   ·rw [j] at b;simp [Value.ownBlock] at b
   ·rw [j] at b;have y:A=g:=by simpa [Value.ownBlock] using b
    rw [y,n] at d;simp at d
def gv [Kn] (pb mb:Nat) (q:Nat→Nat) (vr:Value) (S S':bp) (recs l:List UInt8) (w:World) (e:Ending) (w':World):Prop:=
 e= .returned (.bool true)∧∃q' vr',fv w' pb mb q' vr' S' (recs++bJ l)∧aH (an w pb mb q vr S) w w'∧∀k,an w' pb mb q' vr' S' k→an w pb mb q vr S k∨w.heap.size≤k
def pn [Kn] (S S':bp) (T:Nat):Prop:=S.items.length≤S'.items.length∧∀i∈S'.live,sH S.items.length T (bV S) i=bV S' i
theorem pn.of [Kn] {S a:bp} {T:Nat} (g:Kn.n0≤S.items.length) (c:S.items.length≤a.items.length) (d:∀i,i < S.items.length→a.mailOf i=S.mailOf i) (e:∀i∈a.live,S.items.length≤i→(a.mailOf i).time=T):pn S a T:=by
 refine ⟨c,fun i f=>?_⟩;unfold sH bV
 by_cases b:i < S.items.length
 ·rw [if_pos b,d i b]
 ·rw [if_neg b,if_neg (by omega),e i f (by omega)]
theorem kY [Kn] (d G:Nat) (q:Nat→Nat) (s:Value) (S A:bp) (b l:List UInt8) (T:Nat) (w:World) (h:fv w d G q s S b) (hD:pn S A T) (hl:l.length≤1048568) (a2:b.length≤1073741824) (hT:Calls Tryz.prog 75 #[.pointer (some ⟨d,0,none⟩),.string (bs l)] w (fR 0 d G q s S A T w)):
  Calls Tryz.prog 123 #[.pointer (some ⟨d,0,none⟩),.string (bs l)] w (gv d G q s S A b l w):=by
 have HT:=Lib.hid hT;have E:=Lib.hid h;have Y:(bJ l).length=8+l.length:=by unfold bJ;simp only [List.length_append,bf];omega
 have D:=Lib.hid hD;clear h hT hD;go_enter Tryz.func123,Tryz.ntmps123;go_wp2_with fail
 refine HT.out.mono ?_;rintro e m ⟨rfl,y,I,⟨P,O1⟩,D1⟩;have R:dT m s b:=E.out.row.chg P (fun g Z e=>BB E.out.inn E.out.row Z e);obtain ⟨av,cv,ev⟩:=R.len;have d0:m.drew.cell? ⟨d,0,none⟩=some s:=by show m.cell? _=_;rw [Lib.cell_of_heap I.bag];rfl
 have O:=Lib.hid (F9 l m.drew (by omega));have v:=Lib.hid (I.keep ((Below.refl _ _).drew));have M:=Lib.hid (R.below ((Below.refl _ _).drew));have K:=Lib.hid (P.trans (aH.below ((Below.refl m.heap.size m).drew):aH (fun _=>False) m m.drew) (fun _ _ e=>e.elim));have L:=Lib.hid O1;have J:=Lib.hid D1;clear I R P O1 D1;go_wp2_with fail
 have B:Hid (∀t:World,Below m.drew.heap.size m.drew t→∃a n c j,(Builtin.append_ #[114,9] 114 #[s,.string (bs (bJ l))]).run Tryz.prog t= .ok (.slice a n c) j∧j.cell? ⟨d,0,none⟩=some s∧j.frozen? ⟨d,0,none⟩=false∧gv d G q s S A b l w (.returned (.bool true)) (j.setCell ⟨d,0,none⟩ (.slice a n c))):=Lib.hid (by
  intro t f;have A2:=v.out.keep f;have U:=M.out.below f;obtain ⟨a,n,c,j,hr,R3,Q,O3⟩:=U.text (bJ l) (by rw [Y];omega);have u:=A2.row U Q;have H:aL d j (j.setCell ⟨d,0,none⟩ (.slice a n c)):=(aL.refl _ _).setCell _;have A4:=u.timed (T:=A.time) (vr':= .slice a n c) H (heap_setCell_same j d 0 _ _ _ u.bag)
  have a0:(Value.slice a n c).ownBlock≠some d:=fun e=>by
   obtain ⟨X,z,x⟩:=R3.tag e;rw [u.bag] at x;simp at x
  have K2:aH (fM w d G q S) w t:=K.out.trans (aH.below f:aH (fun _=>False) _ _) (fun _ _ e=>e.elim)
  have r:∀i∈A.live,(j.setCell ⟨d,0,none⟩ (.slice a n c)).heap[y i]? =m.heap[y i]? :=fun i o=>by
   obtain ⟨_,v3,x3,W,_⟩:=u.mail i o;obtain ⟨_,v2,x2,V,_⟩:=A2.mail i o;have e4:(j.setCell ⟨d,0,none⟩ (.slice a n c)).heap[y i]? =j.heap[y i]? :=H.2 _ (fun e=>by unfold dL at W;rw [e,u.bag] at W;simp at W)
   have e3:j.heap[y i]? =t.heap[y i]? :=Q.block _ (ah V) (fun e=>by
    obtain ⟨X,z,x⟩:=U.tag e;unfold dL at V;rw [V] at x
    simp at x)
   obtain ⟨_,v1,x1,b1,_⟩:=v.out.mail i o;exact e4.trans (e3.trans (f.block _ (ah b1)))
  refine ⟨a,n,c,j,hr,by rw [Lib.cell_of_heap u.bag];rfl,Lib.frozen_of_heap u.bag 0,rfl,y,.slice a n c,⟨A4,R3.chg (aH.same H) (fun g Z e=>a0 (by rw [←e];exact Z)),fun i o=>?_,Nat.le_trans E.out.kn D.out.1⟩,?_,?_⟩
  ·obtain ⟨C,x,h4,h5⟩:=J.out (bV S) E.out.due i o;rw [D.out.2 i o] at h4 h5;exact ⟨C,(r i o).trans x,h4,h5⟩
  ·exact ((K2.mono (fun k _ e=> .inl e)).trans Q (fun _ _ e=> .inr e)).trans (aH.same H) (fun k _ e=> .inl (.inl e))
  ·intro k F
   rcases F with F | F
   ·exact (L.out k (fM.keep (fun i o=>r i o) F)).imp .inl id
   ·rcases O3 k F with e | e
    ·exact .inl (.inr e)
    ·exact .inr (Nat.le_trans K2.size e))
 subst ev
 go_region_law (first
  | (refine gD rfl _ _ 114 9 rfl _ _ _ j rfl rfl a1.out ?_)
  | (go_simp;go_at_call 173;refine O.out.mono ?_;rintro e t ⟨rfl,f⟩;obtain ⟨a3,n3,c3,j,p,p0,f0,R5⟩:=B.out t f;have d2:t.cell? ⟨d,0,none⟩=some (.slice av b.length cv):=(by rw [Lib.cell_of_heap (v.out.keep f).bag];rfl);have a1:=Lib.hid p;have N:=Lib.hid R5;clear p R5 f;dsimp only))
 all_goals
  go_wp2_with fail
  go_ret;exact N.out
theorem tL [Kn] (b c:Nat) (q:Nat→Nat) (d:Value) (S:bp) (a:List UInt8) (m:aX) (n:Int) (w:World) (h:fv w b c q d S a) (k:(k9 m).length≤1048568) (j:a.length≤1073741824) (p:w.cell? ⟨0,0,none⟩=some (.int .i64 n)) (r:S.items.length < 4294967295) (g:bP (k9 m)=some m) (l:m.id=S.items.length+1) (o:S.time≤m.time):
  Calls Tryz.prog 123 #[.pointer (some ⟨b,0,none⟩),.string (bs (k9 m))] w fun e s=>e= .returned (.bool true)∧jm b c q d S a m w s:=
 (kY b c q d S (S.plus m) a (k9 m) m.time w h (pn.of h.kn (by rw [dv];omega) (fun i f=>je f) (fun i f k=>by
  have:=bq f;rw [dv] at this;obtain rfl:i=S.items.length:=by omega
  rw [dN])) k j (tK 0 b c q d S (k9 m) m n w h.inn (by omega) p r g l o)).mono fun _ _ h=>h
theorem fv.below [Kn] {w e:World} {pb c:Nat} {q:Nat→Nat} {d:Value} {S:bp} {a:List UInt8} (h:fv w pb c q d S a) (b:Below w.heap.size w e):fv e pb c q d S a:=⟨h.inn.keep b,h.row.below b,h.due.below b,h.kn⟩
def eJ (S:bp) (frm:List UInt8) (tos:List (List UInt8)) (body:List UInt8):aX:=⟨S.items.length+1,S.time,frm,tos,body⟩
theorem qS {m:aX} (a:dQ m):(k9 m).length≤1200000:=by
 obtain ⟨c,d,e,f,b,g⟩:=a;have:=vV m.tos b;unfold k9 jC;simp only [List.length_cons,List.length_append,bf];omega
theorem Jd [Kn] (k I:Nat) (q:Nat→Nat) (J u:Value) (S:bp) (a d b:List UInt8) (c:List (List UInt8)) (g:Int) (w:World) (h:fv w k I q J S a) (t:bg w u c.length 1 (cm c)) (m:dQ (eJ S d c b)) (F:a.length≤1073741824) (f:g < ((a.length+(8+(k9 (eJ S d c b)).length):Nat):Int)):
  Calls Tryz.prog 195 #[.pointer (some ⟨k,0,none⟩),.string (bs d),u,.string (bs b),.int .i64 g] w fun e v=>e= .returned (.tuple #[.int .i64 0,.bool false])∧Below w.heap.size w v:=by
 have j:=Lib.hid (oH (S.items.length+1) S.time d c b u w t m);have s:=qS m;have L:w.cell? ⟨k,1,none⟩=some (.int .i64 S.time):=by rw [Lib.cell_of_heap h.inn.bag];rfl
 have M:w.cell? ⟨k,2,none⟩=some (.int .i64 S.items.length):=by rw [Lib.cell_of_heap h.inn.bag];rfl
 obtain ⟨K,N,C⟩:=aE t;obtain ⟨z,A,B⟩:=h.row.len;subst C B;have E:S.items.length+1≤4294967295:=m.1;have G:IntKind.i64.wrap ((S.items.length:Int)+1)=((S.items.length+1:Nat):Int):=by rw [IntKind.wrap_i64];omega
 obtain ⟨l,r⟩:∃l,k9 (eJ S d c b)=l:=⟨_,rfl⟩;rw [r] at s f;rw [show k9 ⟨S.items.length+1,S.time,d,c,b⟩=l from r] at j;have H:IntKind.i64.wrap ((a.length:Int)+(8+(l.length:Int)))=(a.length:Int)+(8+(l.length:Int)):=by rw [IntKind.wrap_i64];omega
 have o:=Lib.hid h.inn.bag;have p:Hid (∀W:World,Calls Tryz.prog 234 #[.string (bs l)] W fun e v=>e= .returned (.int .i64 ((8+l.length:Nat):Int))∧W=v):=Lib.hid (fun W=>rQ l W (by omega));have D:g < (a.length:Int)+(8+(l.length:Int)):=by omega
 clear h t m r f;go_enter Tryz.func195,Tryz.ntmps195;go_wp2_with fail
 refine j.out.mono ?_;rintro e x ⟨rfl,i⟩;have y:=ae i o.out;have O:x.drew.cell? ⟨k,0,none⟩=some (.slice z a.length A):=by show x.cell? _=_;rw [Lib.cell_of_heap y];rfl
 have n:=Lib.hid i;clear y i;go_wp2_with fail
 go_region_law (first
  | (go_simp;go_at_call 234;refine (p.out x.drew).mono ?_;rintro e P ⟨rfl,rfl⟩;dsimp only))
 all_goals
  go_wp2_with fail
  go_ret2
  exact ⟨rfl,n.out.trans ((Below.refl _ _).drew)⟩
theorem G5 [Kn] (j r:Nat) (q:Nat→Nat) (B O:Value) (S:bp) (b d a:List UInt8) (c:List (List UInt8)) (g:Int) (n:Int) (w:World) (h:fv w j r q B S b) (M:bg w O c.length 1 (cm c)) (x:dQ (eJ S d c a)) (L:b.length≤1073741824) (i:¬g < ((b.length+(8+(k9 (eJ S d c a)).length):Nat):Int)) (a1:g≤1000000) (J:w.cell? ⟨0,0,none⟩=some (.int .i64 n)) (v:bP (k9 (eJ S d c a))=some (eJ S d c a)):
  Calls Tryz.prog 195 #[.pointer (some ⟨j,0,none⟩),.string (bs d),O,.string (bs a),.int .i64 g] w fun e y=>e= .returned (.tuple #[.int .i64 ((S.items.length:Int)+1),.bool true])∧jm j r q B S b (eJ S d c a) w y:=by
 have t:Hid (∀W:World,Below w.heap.size w W→Calls Tryz.prog 123 #[.pointer (some ⟨j,0,none⟩),.string (bs (k9 (eJ S d c a)))] W fun e y=>e= .returned (.bool true)∧jm j r q B S b (eJ S d c a) W y):=Lib.hid (fun W Q=>tL j r q B S b (eJ S d c a) n W (h.below Q) (by omega) L ((Q.cell (eI J)).trans J) (by have:S.items.length+1≤4294967295:=x.1;omega) v rfl (Nat.le_refl _));have R:=Lib.hid h;have s:=Lib.hid (oH (S.items.length+1) S.time d c a O w M x);have K:=qS x;have c1:w.cell? ⟨j,1,none⟩=some (.int .i64 S.time):=by rw [Lib.cell_of_heap h.inn.bag];rfl
 have c2:w.cell? ⟨j,2,none⟩=some (.int .i64 S.items.length):=by rw [Lib.cell_of_heap h.inn.bag];rfl
 obtain ⟨av,cv,Y⟩:=aE M;obtain ⟨G,H,X⟩:=h.row.len;subst Y X;have a0:S.items.length+1≤4294967295:=x.1;have a2:IntKind.i64.wrap ((S.items.length:Int)+1)=((S.items.length+1:Nat):Int):=by rw [IntKind.wrap_i64];omega
 obtain ⟨l,A⟩:∃l,k9 (eJ S d c a)=l:=⟨_,rfl⟩;rw [A] at K i;rw [show k9 ⟨S.items.length+1,S.time,d,c,a⟩=l from A] at s;have a3:IntKind.i64.wrap ((b.length:Int)+(8+(l.length:Int)))=(b.length:Int)+(8+(l.length:Int)):=by rw [IntKind.wrap_i64];omega
 have D:=Lib.hid h.inn.bag;have F:Hid (∀W:World,Calls Tryz.prog 234 #[.string (bs l)] W fun e y=>e= .returned (.int .i64 ((8+l.length:Nat):Int))∧W=y):=Lib.hid (fun W=>rQ l W (by omega));have Z:¬g < (b.length:Int)+(8+(l.length:Int)):=by omega
 rw [A] at t;clear h M x A i J v;go_enter Tryz.func195,Tryz.ntmps195;go_wp2_with fail
 refine s.out.mono ?_;rintro e z ⟨rfl,o⟩;have P:=ae o D.out;have d0:z.drew.cell? ⟨j,0,none⟩=some (.slice G b.length H):=by show z.cell? _=_;rw [Lib.cell_of_heap P];rfl
 have C:=Lib.hid o;clear P o;go_wp2_with fail
 go_region_law (first
  | (go_simp;go_at_call 234;refine (F.out z.drew).mono ?_;rintro e w2 ⟨rfl,rfl⟩;dsimp only))
 all_goals
  go_wp2_with fail
  have p:Below w.heap.size w z.drew:=C.out.trans ((Below.refl _ _).drew);refine (t.out _ p).mono ?_;rintro e w5 ⟨rfl,u⟩;have E:=Lib.hid u;have m:=Lib.hid p;clear u p;go_wp2_with fail
  go_ret2
  obtain ⟨q',N,V,T,U⟩:=E.out;have f:∀k,an z.drew j r q (.slice G b.length H) S k→an w j r q (.slice G b.length H) S k:=fun k I=>I.imp (fun e=>cR R.out.inn m.out e) id;exact ⟨rfl,q',N,V,((aH.below m.out:aH _ _ _)).trans T (fun k _ e=>f k e),fun k I=>(U k I).imp (f k) (fun e=>Nat.le_trans m.out.size e)⟩
theorem an.lt [Kn] {w:World} {pb mb:Nat} {q:Nat→Nat} {vr:Value} {S:bp} {recs:List UInt8} (h:fv w pb mb q vr S recs) {k:Nat} (j:an w pb mb q vr S k):k < w.heap.size:=by
 rcases j with (e | e | ⟨i,f,e | ⟨C,z,a,d⟩⟩) | e
 ·rw [e];exact h.inn.pblt
 ·rw [e];exact h.inn.mblt
 ·obtain ⟨_,v,x,b,_⟩:=h.inn.mail i f;rw [e];exact ah b
 ·obtain ⟨_,v,x,b,g⟩:=h.inn.mail i f;unfold dL at b;rw [b] at a;injection a with a;injection a with a _ _;rw [←a] at d;exact (g.lt k d).2
 ·exact h.row.lt e
theorem fv.chg [Kn] {B:Nat→Prop} {w l:World} {pb mb:Nat} {q:Nat→Nat} {vr:Value} {S:bp} {recs:List UInt8} (h:fv w pb mb q vr S recs) (j:aH B w l) (f:∀k,an w pb mb q vr S k→¬B k):fv l pb mb q vr S recs∧∀k,an l pb mb q vr S k→an w pb mb q vr S k:=by
 have n:∀i∈S.live,l.heap[q i]? =w.heap[q i]? :=fun i d=>by
  obtain ⟨_,v,x,b,_⟩:=h.inn.mail i d;exact j.block _ (ah b) (f _ (.inl (.inr (.inr ⟨i,d,.inl rfl⟩))))
 refine ⟨⟨⟨j.some_ h.inn.bag (f _ (.inl (.inl rfl))),j.some_ h.inn.map (f _ (.inl (.inr (.inl rfl)))),h.inn.pbb,h.inn.mbb,h.inn.one,fun i d=>?_⟩,h.row.chg j (fun g m=>f g (.inr m)),fun i d=>(h.due i d).imp fun C x=>⟨(n i d).trans x.1,x.2⟩,h.kn⟩,fun k p=>p.imp (fun e=>fM.keep n e) id⟩;obtain ⟨a,v,x,b,o⟩:=h.inn.mail i d;refine ⟨a,v,x,j.some_ b (f _ (.inl (.inr (.inr ⟨i,d,.inl rfl⟩)))),bC o j (fun g m=>f g (.inl (.inr (.inr ⟨i,d,.inr ⟨_,_,b,m⟩⟩))))⟩
def gp [Kn] (A:Nat→Prop) (pp pb mb sb ch:Nat) (vw:Value) (q:Nat→Nat) (vr:Value) (S:bp) (w:World) (s':bG) (S':bp) (recs':List UInt8) (ls':List (List UInt8)) (w':World):Prop:=
 ∃A' q' vr',cI w' A' pp pb sb ch vw ls' s'∧fv w' pb mb q' vr' S' recs'∧(∀k,A k→A' k)∧(∀k,A' k→A k∨w.heap.size≤k)∧(∀k,an w' pb mb q' vr' S' k→an w pb mb q vr S k∨w.heap.size≤k)∧(∀k,A' k→¬an w' pb mb q' vr' S' k)∧aH (fun k=>A k∨an w pb mb q vr S k) w w'
section
variable {A:Nat→Prop} {pp pb mb sb ch:Nat} {vw:Value} {q:Nat→Nat} {vr:Value} {S:bp} {recs:List UInt8} {w:World} {s:bG} {E:Nat→Prop} {c:bX}
theorem gp.step [Kn] {w':World} {m:bG} {d:List (List UInt8)} {e:Ending} (j:fv w pb mb q vr S recs) (l:∀k,A k→¬an w pb mb q vr S k) (h:cP A pp pb sb ch vw w m d e w'):gp A pp pb mb sb ch vw q vr S w m S recs d w':=by
 obtain ⟨_,n,p,r,g,i⟩:=h;obtain ⟨o,f⟩:=j.chg i (fun k b a=>l k a b);exact ⟨n,q,vr,p,o,r,g,fun k b=> .inl (f k b),fun k t b=>(g k t).elim (fun e=>l k e (f k b)) (fun e=>by have:=an.lt j (f k b);omega),i.mono (fun _ _ e=> .inl e)⟩
theorem cI.drop_d {f:List (List UInt8)} (h:cI w A pp pb sb ch vw f s) (u:FrameMode):CallsD Tryz.prog 194 #[.pointer (some ⟨sb,0,none⟩)] u w fun e u' b=>u'=u∧e= .returned (.tuple #[])∧cI b A pp pb sb ch vw f {s with tx:=none}∧aH A w b:=by
 obtain ⟨i,a,j⟩:=h.ex;refine (oa sb i u w (a.cell 8) (a.frozen 8)).mono ?_;rintro e u' b ⟨rfl,rfl,rfl⟩;have d:aL sb w (w.setCell ⟨sb,8,none⟩ (.pointer none)):=(aL.refl _ _).setCell _;exact ⟨rfl,rfl,⟨⟨.pointer none,a.set 8 (by decide) (.pointer none),rfl⟩,h.asb,h.ach,fun k g=>Nat.lt_of_lt_of_le (h.lt k g) (aH.same d).size⟩,(aH.same d).mono (fun k _ e=>by rw [e];exact h.asb)⟩
theorem I9 (h:cI w A pp pb sb ch vw [] s) {t:mK} (B:s.tx=some t) {b:dW} (y:t.body=some b) (j:b.bad=true):
  Calls Tryz.prog 139 #[.pointer (some ⟨sb,0,none⟩)] w (cP A pp pb sb ch vw w {s with tx:=none} [zm]):=by
 obtain ⟨K,d,k⟩:=h.ex;rw [B] at k;obtain ⟨u,J,I,rfl,G,r,F,p⟩:=k;rw [y] at p;obtain ⟨o,L,rfl,z,g,x⟩:=p;have D:w.cell? ⟨sb,8,none⟩=some (.pointer (some ⟨u,0,none⟩)):=d.cell 8;have H:w.cell? ⟨u,2,none⟩=some (.pointer (some ⟨o,0,none⟩)):=r.cell 2;have C:w.cell? ⟨o,2,none⟩=some (.bool true):=by rw [Lib.cell_of_heap g.blk,←j];rfl
 have v:=Lib.hid (h.tell (by simp) [53,48,48,32,119,104,97,116] (by decide));clear h d r g;go_enter_defers Tryz.func139,Tryz.ntmps139
 go_wp2_with fail
 refine v.out.mono ?_;rintro e M ⟨rfl,d,i⟩;have l:=Lib.hid d;have m:=Lib.hid i;clear d i;go_wp2_with fail
 refine leaves_cons (f:=194) (args:=#[.pointer (some ⟨sb,0,none⟩)]) (by simp) (by simp [go_sem]) ?_;refine (l.out.drop_d .returning).mono ?_;rintro e u' N ⟨rfl,rfl,k,n⟩;exact ⟨_,results_none rfl _ _ _,rfl,A,k,fun _ a=>a,fun _ a=> .inl a,m.out.trans n (fun _ _ e=>e)⟩
end
section
variable {A:Nat→Prop} {pp pb mb sb ch:Nat} {vw:Value} {q:Nat→Nat} {vr:Value} {S:bp} {recs:List UInt8} {w:World} {s:bG} {E:Nat→Prop} {c:bX}
theorem GH (h:cI w A pp pb sb ch vw [] s) (y:gg E w pp c) {t:mK} (N:s.tx=some t) {b:dW} (L:t.body=some b) (k:b.bad=false) (z:c.size < (b.text.length:Int)):
  Calls Tryz.prog 139 #[.pointer (some ⟨sb,0,none⟩)] w (cP A pp pb sb ch vw w {s with tx:=none} [uw]):=by
 obtain ⟨vx,i,m⟩:=h.ex;obtain ⟨W,X,Y,Z,B,_⟩:=y.set;rw [N] at m;obtain ⟨C,vt,vb,rfl,U,x,T,v⟩:=m;rw [L] at v;obtain ⟨r,vy,rfl,M,d,K⟩:=v;obtain ⟨H,I,J⟩:=Mk d.row;subst J;have Q:w.cell? ⟨sb,0,none⟩=some (.pointer (some ⟨pp,0,none⟩)):=i.cell 0;have R:w.cell? ⟨sb,8,none⟩=some (.pointer (some ⟨C,0,none⟩)):=i.cell 8;have V:w.cell? ⟨C,2,none⟩=some (.pointer (some ⟨r,0,none⟩)):=x.cell 2;have O:w.cell? ⟨r,0,none⟩=some (.slice H b.text.length I):=by rw [Lib.cell_of_heap d.blk];rfl
 have P:w.cell? ⟨r,2,none⟩=some (.bool false):=by rw [Lib.cell_of_heap d.blk,←k];rfl
 have y5:w.cell? ⟨pp,5,none⟩=some (.int .i64 c.size):=(B.cell 5 (by decide)).trans rfl;have F:=Lib.hid h;clear h i x d B y;go_enter_defers Tryz.func139,Tryz.ntmps139
 go_wp2_with fail
 go_quiet (fail)
 have g:=bA nq w w.heap.size;obtain ⟨D,l⟩:∃D,w.drewN nq=D:=⟨_,rfl⟩;rw [l] at g ⊢;have G:=Lib.hid ((F.out.below g).tell (by simp) [53,53,50,32,115,105,122,101] (by decide));have n:=Lib.hid g;clear g l;go_wp2_with fail
 refine G.out.mono ?_;rintro e w1 ⟨rfl,i,j⟩;have o:=Lib.hid i;have p:=Lib.hid j;clear i j;go_wp2_with fail
 refine leaves_cons (f:=194) (args:=#[.pointer (some ⟨sb,0,none⟩)]) (by simp) (by simp [go_sem]) ?_;refine (o.out.drop_d .returning).mono ?_;rintro e u' w2 ⟨rfl,rfl,m,u⟩;exact ⟨_,results_none rfl _ _ _,rfl,A,m,fun _ a=>a,fun _ a=> .inl a,((aH.below n.out:aH A _ _).trans p.out (fun _ _ e=>e)).trans u (fun _ _ e=>e)⟩
def G4 [Kn] (S:bp) (recs:List UInt8) (pb mb:Nat) (q:Nat→Nat) (vr:Value) (m:aX) (W:World) (id:Int) (ok:Bool) (w':World):Prop:=
 (ok=false∧Below W.heap.size W w')∨(ok=true∧id=(S.items.length:Int)+1∧jm pb mb q vr S recs m W w')
theorem jm.from [Kn] {m:aX} {W g:World} (h:fv w pb mb q vr S recs) (d:Below w.heap.size w W) (b:jm pb mb q vr S recs m W g):jm pb mb q vr S recs m w g:=by
 obtain ⟨n,f,l,i,j⟩:=b;have a:∀k,an W pb mb q vr S k→an w pb mb q vr S k:=fun k b=>b.imp (fun e=>cR h.inn d e) id;exact ⟨n,f,l,(aH.below d:aH _ _ _).trans i (fun k _ e=>a k e),fun k b=>(j k b).imp (a k) (fun e=>Nat.le_trans d.size e)⟩
theorem G4.chg [Kn] {m:aX} {a:World} {b:Int} {d:Bool} (h:G4 S recs pb mb q vr m w b d a):aH (an w pb mb q vr S) w a:=by
 rcases h with ⟨_,h⟩ | ⟨_,_,_,_,_,h,_⟩
 ·exact aH.below h
 ·exact h
def jt (c:bX) (recs:List UInt8) (m:aX):Bool:= !decide (c.room < ((recs.length+(8+(k9 m).length):Nat):Int))
theorem GG [Kn] (h:cI w A pp pb sb ch vw [] s) (V:gg E w pp c) (B:fv w pb mb q vr S recs) {t:mK} (ht:s.tx=some t) {b:dW} (hb:t.body=some b) (a9:b.bad=false) (d8:¬c.size < (b.text.length:Int)) (hz:dQ (eJ S t.frm t.tos b.text)) (P:recs.length≤1073741824) (b4:bP (k9 (eJ S t.frm t.tos b.text))=some (eJ S t.frm t.tos b.text)) (d:∀k,A k→¬an w pb mb q vr S k) (N:∀k,E k→¬an w pb mb q vr S k) (G:∀k,E k→¬A k):
  Calls Tryz.prog 139 #[.pointer (some ⟨sb,0,none⟩)] w fun e j=>e= .returned (.tuple #[])∧
   (if jt c recs (eJ S t.frm t.tos b.text) then gp A pp pb mb sb ch vw q vr S w {s with tx:=none} (S.plus (eJ S t.frm t.tos b.text)) (recs++bJ (k9 (eJ S t.frm t.tos b.text))) [[50,53,48,32,107,101,112,116,32]++Lib.itoa ((S.items.length:Int)+1)++[13,10]] j else gp A pp pb mb sb ch vw q vr S w {s with tx:=none} S recs [CR] j):=by
 obtain ⟨vx,T,h2⟩:=h.ex;obtain ⟨vD,vN,vU,vW,hs,_⟩:=V.set;obtain ⟨m,hm⟩:=V.len;rw [ht] at h2;obtain ⟨r,vt,vb,rfl,ha,U,hO,hB⟩:=h2;rw [hb] at hB;obtain ⟨J,vy,rfl,d3,n,d1⟩:=hB;obtain ⟨ay,cy,ey⟩:=Mk n.row;have a7:=dT.ofF n.row;subst ey;obtain ⟨u,ct,et⟩:=aE (aF U.row);subst et;have c0:w.cell? ⟨sb,0,none⟩=some (.pointer (some ⟨pp,0,none⟩)):=T.cell 0;have c1:w.cell? ⟨sb,1,none⟩=some (.pointer (some ⟨pb,0,none⟩)):=T.cell 1;have c8:w.cell? ⟨sb,8,none⟩=some (.pointer (some ⟨r,0,none⟩)):=T.cell 8;have t0:w.cell? ⟨r,0,none⟩=some (.string (bs t.frm)):=U.cell 0;have t1:w.cell? ⟨r,1,none⟩=some (.slice u t.tos.length ct):=U.cell 1;have t2:w.cell? ⟨r,2,none⟩=some (.pointer (some ⟨J,0,none⟩)):=U.cell 2;have b0:w.cell? ⟨J,0,none⟩=some (.slice ay b.text.length cy):=by rw [Lib.cell_of_heap n.blk];rfl
 have b2:w.cell? ⟨J,2,none⟩=some (.bool false):=by rw [Lib.cell_of_heap n.blk,←a9];rfl
 have y5:w.cell? ⟨pp,5,none⟩=some (.int .i64 c.size):=(hs.cell 5 (by decide)).trans rfl;have y8:w.cell? ⟨pp,8,none⟩=some (.int .i64 c.room):=(hs.cell 8 (by decide)).trans rfl;have d5:=(ly V.may).2.2.2;obtain ⟨Q,y⟩:∃Q,jt c recs (eJ S t.frm t.tos b.text)=Q:=⟨_,rfl⟩;have d9:S.items.length+1≤4294967295:=hz.1
 have a3:Hid (∀W:World,Below w.heap.size w W→Calls Tryz.prog 195 #[.pointer (some ⟨pb,0,none⟩),.string (bs t.frm),.slice u t.tos.length ct,.string (bs b.text),.int .i64 c.room] W fun e j=>∃id,e= .returned (.tuple #[.int .i64 id,.bool Q])∧G4 S recs pb mb q vr (eJ S t.frm t.tos b.text) w id Q j):=Lib.hid (fun W l=>by
  have F:fv W pb mb q vr S recs:=B.below l;have a8:=(aF U.row).below l
  by_cases i:c.room < ((recs.length+(8+(k9 (eJ S t.frm t.tos b.text)).length):Nat):Int)
  ·have C:Q=false:=by rw [←y];unfold jt;rw [decide_eq_true i];rfl
   subst C;refine (Jd pb mb q vr _ S recs t.frm b.text t.tos c.room W F a8 hz P i).mono ?_;rintro e j ⟨rfl,L⟩;exact ⟨0,rfl,.inl ⟨rfl,l.trans (L.mono l.size)⟩⟩
  ·have C:Q=true:=by rw [←y];unfold jt;rw [decide_eq_false i];rfl
   subst C;refine (G5 pb mb q vr _ S recs t.frm b.text t.tos c.room m W F a8 hz P i d5 ((l.cell (eI hm)).trans hm) b4).mono ?_;rintro e j ⟨rfl,L⟩
   exact ⟨_,rfl,.inr ⟨rfl,rfl,jm.from B l L⟩⟩)
 have HS:Hid (∀W:World,aH (an w pb mb q vr S) w W→W.cell? ⟨sb,0,none⟩=some (.pointer (some ⟨pp,0,none⟩))∧W.cell? ⟨sb,1,none⟩=some (.pointer (some ⟨pb,0,none⟩))∧W.cell? ⟨r,0,none⟩=some (.string (bs t.frm))∧W.cell? ⟨r,1,none⟩=some (.slice u t.tos.length ct)∧W.cell? ⟨r,2,none⟩=some (.pointer (some ⟨J,0,none⟩))∧W.cell? ⟨J,0,none⟩=some (.slice ay b.text.length cy)∧W.cell? ⟨pp,8,none⟩=some (.int .i64 c.room)∧(convert 114 9 (.slice ay b.text.length cy)).run Tryz.prog W= .ok (.string (bs b.text)) W):=Lib.hid (fun W hK=>by
  have R:∀{x o:Nat} {v:Value},w.cell? ⟨x,o,none⟩=some v→¬an w pb mb q vr S x→W.cell? ⟨x,o,none⟩=some v:=fun e hn=>(World.cell?_of_block (hK.block _ (eI e) hn)).trans e
  exact ⟨R c0 (d _ h.asb),R c1 (d _ h.asb),R t0 (d _ ha),R t1 (d _ ha),R t2 (d _ ha),R b0 (d _ d3),R y8 (N _ V.epp),(a7.chg hK (fun g hg=>d g (d1 g hg))).string⟩)
 have HH:=Lib.hid h;have HE:=Lib.hid V;have b8:=Lib.hid B;have I:=Lib.hid d;have d0:=Lib.hid N;have d7:=Lib.hid G;rw [y];clear h T U n hs V B hz P a7 b4 d N G hm y;go_enter_defers Tryz.func139,Tryz.ntmps139
 go_wp2_with fail
 go_quiet (fail)
 have p:=bA nq w w.heap.size;obtain ⟨X,b5⟩:∃X,w.drewN nq=X:=⟨_,rfl⟩;rw [b5] at p ⊢;have a6:=a3.out _ (p.trans ((Below.refl w.heap.size X).drew));have a2:=Lib.hid a6;have C0:Hid (aH (an w pb mb q vr S) w X):=Lib.hid (aH.below p);have C1:Hid (aH (an w pb mb q vr S) w X.drew):=Lib.hid (aH.below (p.trans ((Below.refl w.heap.size X).drew)));obtain ⟨s0,s1,s2,s3,s4,s5,s6,s7⟩:=HS.out _ C0.out;clear p b5 c0 c1 c8 t0 t1 t2 b0 b2 y5 y8 a6 a3;go_wp2_with fail
 go_region_held3 (fun j=>j.cell? ⟨sb,0,none⟩=some (.pointer (some ⟨pp,0,none⟩))∧j.cell? ⟨sb,1,none⟩=some (.pointer (some ⟨pb,0,none⟩))∧j.cell? ⟨r,0,none⟩=some (.string (bs t.frm))∧j.cell? ⟨r,1,none⟩=some (.slice u t.tos.length ct)∧j.cell? ⟨r,2,none⟩=some (.pointer (some ⟨J,0,none⟩))∧j.cell? ⟨J,0,none⟩=some (.slice ay b.text.length cy)∧j.cell? ⟨pp,8,none⟩=some (.int .i64 c.room)∧(convert 114 9 (.slice ay b.text.length cy)).run Tryz.prog j= .ok (.string (bs b.text)) j)
  (first | exact HS.out _ C5.out | exact HS.out _ C1.out | exact HS.out _ C0.out)
  (first
   | (go_at_call 195;refine a2.out.mono ?_;rintro e w5 ⟨id,rfl,O⟩;have C5:=Lib.hid O.chg;have H:=Lib.hid O;clear O))
 have c3:=Lib.hid (HH.out.chg C5.out I.out);have c2:=Lib.hid (HE.out.chg C5.out d0.out);clear HS C0 C1 a2 s0 s1 s2 s3 s4 s5 s6 s7
 cases Q with
 | false=>
  have Z:Hid (Below w.heap.size w w5):=Lib.hid (by
   rcases H.out with ⟨_,h⟩ | ⟨h,_⟩
   ·exact h
   ·cases h)
  have HT:=Lib.hid ((HH.out.below Z.out).tell (by simp) [52,53,50,32,114,111,111,109] (by decide));go_wp2_with fail
  refine HT.out.mono ?_;rintro e w6 ⟨rfl,h6,a5⟩;have c4:=Lib.hid h6;have c6:=Lib.hid a5;clear h6 a5;go_wp2_with fail
  refine leaves_cons (f:=194) (args:=#[.pointer (some ⟨sb,0,none⟩)]) (by simp) (by simp [go_sem]) ?_;refine (c4.out.drop_d .returning).mono ?_;rintro e u' w7 ⟨rfl,rfl,h7,z⟩;refine ⟨_,results_none rfl _ _ _,rfl,?_⟩;exact gp.step (e:= .returned (.tuple #[])) b8.out I.out ⟨rfl,A,h7,fun _ a=>a,fun _ a=> .inl a,((aH.below Z.out:aH A _ _).trans c6.out (fun _ _ e=>e)).trans z (fun _ _ e=>e)⟩
 | true=>
  obtain ⟨b3,c9⟩:id=(S.items.length:Int)+1∧Hid (jm pb mb q vr S recs (eJ S t.frm t.tos b.text) w w5):=by
   rcases H.out with ⟨h,_⟩ | ⟨_,T,h2⟩
   ·cases h
   ·exact ⟨T,Lib.hid h2⟩
  subst b3
  have d4:(Lib.itoa ((S.items.length:Int)+1)).length≤10:=by
   unfold Lib.itoa;rw [if_neg (by omega)];exact kZ _ 9 (by omega)
  have a1:=Lib.hid (AP ((S.items.length:Int)+1) (by omega) (by omega) w5 c2.out.pow);have D:(⟨#[50,53,48,32,107,101,112,116,32]⟩:ByteArray)++bs (Lib.itoa ((S.items.length:Int)+1))=bs ([50,53,48,32,107,101,112,116,32]++Lib.itoa ((S.items.length:Int)+1)):=cE [50,53,48,32,107,101,112,116,32] _;have Y:=Lib.hid D;have d6:=aG (Lib.itoa ((S.items.length:Int)+1));obtain ⟨it,K⟩:∃it,Lib.itoa ((S.items.length:Int)+1)=it:=⟨_,rfl⟩;rw [K] at d4 a1 Y d6;have a0:=Lib.hid K;clear D K H;go_wp2_with fail
  refine a1.out.mono ?_;rintro e w6 ⟨rfl,M⟩;have b7:=Lib.hid M;have HT:=Lib.hid ((c3.out.below M).tell (by simp) ([50,53,48,32,107,101,112,116,32]++it) (by rw [List.length_append];simp;omega));clear M;go_wp2_with fail
  rw [Y.out];refine HT.out.mono ?_;rintro e w7 ⟨rfl,h7,z⟩;have c5:=Lib.hid h7;have c7:=Lib.hid z;clear h7 z;go_wp2_with fail
  refine leaves_cons (f:=194) (args:=#[.pointer (some ⟨sb,0,none⟩)]) (by simp) (by simp [go_sem]) ?_;refine (c5.out.drop_d .returning).mono ?_;rintro e u' w8 ⟨rfl,rfl,h8,d2⟩;refine ⟨_,results_none rfl _ _ _,rfl,?_⟩;obtain ⟨q',b6,R5,K5,O5⟩:=c9.out;have a4:aH A w5 w8:=((aH.below b7.out:aH A _ _).trans c7.out (fun _ _ e=>e)).trans d2 (fun _ _ e=>e);have b1:∀k,an w5 pb mb q' b6 (S.plus (eJ S t.frm t.tos b.text)) k→¬A k:=fun k C a=>(O5 k C).elim (fun e=>I.out k a e) (fun e=>by have:=HH.out.lt k a;omega);obtain ⟨R8,O8⟩:=R5.chg a4 b1;rw [a0.out];exact ⟨A,q',b6,h8,R8,fun _ a=>a,fun _ a=> .inl a,fun k C=>O5 k (O8 k C),fun k a C=>b1 k (O8 k C) a,(K5.mono (fun _ _ e=> .inr e)).trans a4 (fun _ _ e=> .inl e)⟩
end
structure fG [Kn] (E:Nat→Prop) (pp pb mb sb ch bl:Nat) (c:bX) (w:World) (A:Nat→Prop) (q:Nat→Nat) (vr:Value) (S:bp) (recs:List UInt8) (vw v:Value) (acc:List UInt8) (ls:List (List UInt8)) (s:bG):Prop where
 env:gg E w pp c
 ses:cI w A pp pb sb ch vw ls s
 row:lF w vw s.wait
 bag:fv w pb mb q vr S recs
 bld:jE 0 w bl v acc
 ea:∀k,E k→¬A k
 eb:∀k,E k→¬an w pb mb q vr S k
 ab:∀k,A k→¬an w pb mb q vr S k
 wd:∀g,vw.ownBlock=some g→¬E g∧¬A g∧¬an w pb mb q vr S g∧g≠bl∧v.ownBlock≠some g
 ld:¬E bl∧¬A bl∧¬an w pb mb q vr S bl
 vd:∀g,v.ownBlock=some g→¬E g∧¬A g∧¬an w pb mb q vr S g
section
variable {E:Nat→Prop} {pp pb mb sb ch bl:Nat} {c:bX} {w w':World} {A A':Nat→Prop} {q q':Nat→Nat} {vr vr':Value} {S S':bp} {recs recs':List UInt8} {vw vw' v v':Value} {acc acc':List UInt8} {ls ls':List (List UInt8)} {s s':bG}
theorem fG.rowLt [Kn] (h:fG E pp pb mb sb ch bl c w A q vr S recs vw v acc ls s) {g:Nat} (d:vw.ownBlock=some g):g < w.heap.size:=by
 obtain ⟨a,b⟩:=dm h.row d;exact ah b
theorem fG.blLt [Kn] (h:fG E pp pb mb sb ch bl c w A q vr S recs vw v acc ls s):bl < w.heap.size:=by
 obtain ⟨p,_,a⟩:=h.bld.blk;exact ah a
theorem fG.vLt [Kn] (h:fG E pp pb mb sb ch bl c w A q vr S recs vw v acc ls s) {g:Nat} (d:v.ownBlock=some g):g < w.heap.size:=by
 obtain ⟨a,z,b⟩:=gB h.bld.row d;exact ah b
def ug (w:World) (pb mb bl:Nat) (A:Nat→Prop) (q:Nat→Nat) (vr:Value) (S:bp) (vw v:Value) (k:Nat):Prop:=A k∨an w pb mb q vr S k∨k=bl∨v.ownBlock=some k∨vw.ownBlock=some k
theorem j6 {B:Nat→Prop} (h:jE 0 w bl v acc) (a:aH B w w') (b:¬B bl) (d:∀g,v.ownBlock=some g→¬B g):jE 0 w' bl v acc:=by
 obtain ⟨p,f,e⟩:=h.blk;exact ⟨⟨p,f,a.some_ e b⟩,BA h.row a d,h.far⟩
theorem fG.line [Kn] (h:fG E pp pb mb sb ch bl c w A q vr S recs vw v acc ls s) (l:gp A pp pb mb sb ch vw q vr S w s' S' recs' ls' w') (m:s'.wait=s.wait):∃A' q' vr',fG E pp pb mb sb ch bl c w' A' q' vr' S' recs' vw v acc ls' s'∧(∀k,A' k→A k∨w.heap.size≤k)∧(∀k,an w' pb mb q' vr' S' k→an w pb mb q vr S k∨w.heap.size≤k)∧aH (fun k=>A k∨an w pb mb q vr S k) w w':=by
 obtain ⟨A',q',vr',p,r,y,f,i,t,d⟩:=l;have j:∀k,E k→¬(A k∨an w pb mb q vr S k):=fun k e x=>x.elim (h.ea k e) (h.eb k e);have b:∀{k:Nat},k < w.heap.size→¬A k→¬an w pb mb q vr S k→¬A' k∧¬an w' pb mb q' vr' S' k:=fun u n o=>⟨fun e=>(f _ e).elim n (fun e=>by omega),fun e=>(i _ e).elim o (fun e=>by omega)⟩;refine ⟨A',q',vr',⟨h.env.chg d j,p,?_,r,?_,?_,?_,t,?_,?_,?_⟩,f,i,d⟩
 ·rw [m];exact bC h.row d (fun g a e=>e.elim (h.wd g a).2.1 (h.wd g a).2.2.1)
 ·exact j6 h.bld d (fun e=>e.elim h.ld.2.1 h.ld.2.2) (fun g a e=>e.elim (h.vd g a).2.1 (h.vd g a).2.2)
 ·exact fun k e=>(b (h.env.lt k e) (h.ea k e) (h.eb k e)).1
 ·exact fun k e=>(b (h.env.lt k e) (h.ea k e) (h.eb k e)).2
 ·intro g a;have:=b (h.rowLt a) (h.wd g a).2.1 (h.wd g a).2.2.1;exact ⟨(h.wd g a).1,this.1,this.2,(h.wd g a).2.2.2⟩
 ·have:=b h.blLt h.ld.2.1 h.ld.2.2;exact ⟨h.ld.1,this.1,this.2⟩
 ·intro g a;have:=b (h.vLt a) (h.vd g a).2.1 (h.vd g a).2.2;exact ⟨(h.vd g a).1,this.1,this.2⟩
theorem fG.below [Kn] (h:fG E pp pb mb sb ch bl c w A q vr S recs vw v acc ls s) (d:Below w.heap.size w w'):fG E pp pb mb sb ch bl c w' A q vr S recs vw v acc ls s:=by
 have f:aH (fun _=>False) w w':=aH.below d;obtain ⟨i,b⟩:=h.bag.chg f (fun _ _ e=>e);exact ⟨h.env.below d,h.ses.below d,bC h.row f (fun _ _ e=>e),i,j6 h.bld f (fun e=>e) (fun _ _ e=>e),h.ea,fun k e x=>h.eb k e (b k x),fun k e x=>h.ab k e (b k x),fun g a=>⟨(h.wd g a).1,(h.wd g a).2.1,fun x=>(h.wd g a).2.2.1 (b g x),(h.wd g a).2.2.2⟩,⟨h.ld.1,h.ld.2.1,fun x=>h.ld.2.2 (b _ x)⟩,fun g a=>⟨(h.vd g a).1,(h.vd g a).2.1,fun x=>(h.vd g a).2.2 (b g x)⟩⟩
theorem fG.cut [Kn] (h:fG E pp pb mb sb ch bl c w A q vr S recs vw v acc ls s) {C:Array Value} {y:List UInt8} {j:Value} (I:C=iq pp pb ch vw j s) (n:bT w sb ch (iq pp pb ch vw j s) ls) (M:oh w A j s.tx) (K:oI sb C vw y w w'):∃vw',fG E pp pb mb sb ch bl c w' A q vr S recs vw' v acc ls {s with wait:=y}∧aH (fun k=>k=sb∨vw.ownBlock=some k) w w'∧(∀g,vw'.ownBlock=some g→vw.ownBlock=some g∨w.heap.size≤g)∧∀k,an w' pb mb q vr S k→an w pb mb q vr S k:=by
 obtain ⟨vw',m,f,B⟩:=K;subst I;have H:∀k,E k→¬(k=sb∨vw.ownBlock=some k):=fun k e x=>x.elim (fun a=>h.ea k e (by rw [a];exact h.ses.asb)) (fun a=>(h.wd k a).1 e);have G:∀k,an w pb mb q vr S k→¬(k=sb∨vw.ownBlock=some k):=fun k e x=>x.elim (fun a=>h.ab k (by rw [a];exact h.ses.asb) e) (fun a=>(h.wd k a).2.2.1 e);obtain ⟨F,i⟩:=h.bag.chg f G;have d:∀g,vw'.ownBlock=some g→vw.ownBlock=some g∨w.heap.size≤g:=B;obtain ⟨N,r,p⟩:=n.chan;have l:¬(ch=sb∨vw.ownBlock=some ch):=fun x=>x.elim (fun e=>n.ne e.symm) (fun e=>(h.wd ch e).2.1 h.ses.ach);have o:bT w' sb ch (iq pp pb ch vw' j {s with wait:=y}) ls:=⟨m.blk,m.size,rfl,N,r,f.some_ p l⟩;have u:oh w' A j s.tx:=M.off f (fun k C t z D e L x=>x.elim (fun a=>tg n k C t z e L (.inl a)) (fun a=>(h.wd k a).2.1 D));refine ⟨vw',⟨h.env.chg f H,⟨⟨j,o,u⟩,h.ses.asb,h.ses.ach,fun k J=>Nat.lt_of_lt_of_le (h.ses.lt k J) f.size⟩,m.row,F,j6 h.bld f (fun x=>x.elim (fun e=>h.ld.2.1 (by rw [e];exact h.ses.asb)) (fun e=>(h.wd bl e).2.2.2.1 rfl)) (fun g b x=>x.elim (fun e=>(h.vd g b).2.1 (by rw [e];exact h.ses.asb)) (fun e=>(h.wd g e).2.2.2.2 b)),h.ea,fun k e x=>h.eb k e (i k x),fun k e x=>h.ab k e (i k x),fun g b=>?_,⟨h.ld.1,h.ld.2.1,fun x=>h.ld.2.2 (i _ x)⟩,fun g b=>⟨(h.vd g b).1,(h.vd g b).2.1,fun x=>(h.vd g b).2.2 (i g x)⟩⟩,f,d,i⟩
 rcases d g b with e | e
 ·exact ⟨(h.wd g e).1,(h.wd g e).2.1,fun x=>(h.wd g e).2.2.1 (i g x),(h.wd g e).2.2.2⟩
 ·exact ⟨fun x=>by have:=h.env.lt g x;omega,fun x=>by have:=h.ses.lt g x;omega,fun x=>by have:=an.lt h.bag (i g x);omega,fun x=>by have:=h.blLt;omega,fun x=>by have:=h.vLt x;omega⟩
theorem fG.told [Kn] (h:fG E pp pb mb sb ch bl c w A q vr S recs vw v acc ls s) {y r:Nat} (f:aH (fun k=>k=ch∨k=bl∨v.ownBlock=some k) w w') (u:∀g,v'.ownBlock=some g→v.ownBlock=some g∨w.heap.size≤g) (I:jE 0 w' bl v' acc') (l:w'.heap[ch]? =some (.chan 3 #[] false y r false)):fG E pp pb mb sb ch bl c w' A q vr S recs vw v' acc' [] s∧∀k,an w' pb mb q vr S k→an w pb mb q vr S k:=by
 obtain ⟨o,i,L⟩:=h.ses.ex
 have G:∀k,E k→¬(k=ch∨k=bl∨v.ownBlock=some k):=fun k e x=>by
  rcases x with x | x | x
  ·exact h.ea k e (by rw [x];exact h.ses.ach)
  ·exact h.ld.1 (by rw [←x];exact e)
  ·exact (h.vd k x).1 e
 have F:∀k,an w pb mb q vr S k→¬(k=ch∨k=bl∨v.ownBlock=some k):=fun k e x=>by
  rcases x with x | x | x
  ·exact h.ab k (by rw [x];exact h.ses.ach) e
  ·exact h.ld.2.2 (by rw [←x];exact e)
  ·exact (h.vd k x).2.2 e
 obtain ⟨D,d⟩:=h.bag.chg f F
 have p:∀k,A k→k≠ch→¬(k=ch∨k=bl∨v.ownBlock=some k):=fun k a n x=>by
  rcases x with x | x | x
  ·exact n x
  ·exact h.ld.2.1 (by rw [←x];exact a)
  ·exact (h.vd k x).2.1 a
 have j:bT w' sb ch (iq pp pb ch vw o s) []:=⟨f.some_ i.blk (p sb h.ses.asb i.ne),i.size,i.told,y,r,l⟩;have m:oh w' A o s.tx:=L.off f (fun k C t z B e K=>p k B (fun H=>tg i k C t z e K (.inr H)));refine ⟨⟨h.env.chg f G,⟨⟨o,j,m⟩,h.ses.asb,h.ses.ach,fun k J=>Nat.lt_of_lt_of_le (h.ses.lt k J) f.size⟩,bC h.row f (fun g b x=>?_),D,I,h.ea,fun k e x=>h.eb k e (d k x),fun k e x=>h.ab k e (d k x),fun g b=>⟨(h.wd g b).1,(h.wd g b).2.1,fun x=>(h.wd g b).2.2.1 (d g x),(h.wd g b).2.2.2.1,fun x=>?_⟩,⟨h.ld.1,h.ld.2.1,fun x=>h.ld.2.2 (d _ x)⟩,fun g b=>?_⟩,d⟩
 ·rcases x with x | x | x
  ·exact (h.wd g b).2.1 (by rw [x];exact h.ses.ach)
  ·exact (h.wd g b).2.2.2.1 x
  ·exact (h.wd g b).2.2.2.2 x
 ·rcases u g x with e | e
  ·exact (h.wd g b).2.2.2.2 e
  ·have:=h.rowLt b;omega
 ·rcases u g b with e | e
  ·exact ⟨(h.vd g e).1,(h.vd g e).2.1,fun x=>(h.vd g e).2.2 (d g x)⟩
  ·exact ⟨fun x=>by have:=h.env.lt g x;omega,fun x=>by have:=h.ses.lt g x;omega,fun x=>by have:=an.lt h.bag (d g x);omega⟩
end
end Go.Proofs.YtofpegbpgkkgkaaGreatDoor
