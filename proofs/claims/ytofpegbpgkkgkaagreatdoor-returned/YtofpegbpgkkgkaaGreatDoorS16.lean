import Derived.Test.YtofpegbpgkkgkaaGreatDoorS10
import Derived.Test.YtofpegbpgkkgkaaGreatDoorS12
import Derived.Test.YtofpegbpgkkgkaaGreatDoorS11
namespace Go.Proofs.YtofpegbpgkkgkaaGreatDoor
set_option maxHeartbeats 8000000
set_option maxRecDepth 1000000
open Go.RowKit
def yr (x:ByteArray×ByteArray):ByteArray:=(⟨#[0]⟩++x.1++⟨#[0]⟩)++x.2
def iV (shown:ByteArray) (x:ByteArray×ByteArray):Bool:=(shown.toList == (yr x).toList) || (shown.toList == (x.1++yr x).toList)
theorem AM (c:bX) (Q R S T:Value) (a:ByteArray) (w:World) (h:jZ w c Q R S T) (hn:c.users.length≤5) (N:∀x∈c.users,x.1.size≤255∧x.2.size≤255):
  Calls Tryz.prog 200 #[.agg #[.string c.host,Q,R,S,.int .i64 c.most,.int .i64 c.size,T,.int .i64 c.life,.int .i64 c.room],.string a] w fun e I=>e= .returned (.bool (c.users.any (iV a)))∧Below w.heap.size w I:=by
 obtain ⟨V,Z,eD⟩:=aE h.1;obtain ⟨W,cN,eN⟩:=aE h.2.1;obtain ⟨Y,cW,eW⟩:=aE h.2.2.2;obtain ⟨X,cU,eU,M⟩:=h.2.2.1.shape;subst eD eN eU eW;obtain ⟨C,l⟩:∃C:World,w.alloc (.cells #[.string c.host,.slice V c.doms.length Z,.slice W c.nets.length cN,.slice X c.users.length cU,.int .i64 c.most,.int .i64 c.size,.slice Y c.waits.length cW,.int .i64 c.life,.int .i64 c.room] 30)=C:=⟨_,rfl⟩;have J:Below w.heap.size w C:=by rw [←l];exact (Below.refl _ _).alloc (Nat.le_refl _) _
 have K:=Lib.hid M;have U:=Lib.hid N;have u:=Lib.hid J;have B:=Lib.hid l;clear h M N J l;go_enter Tryz.func200,Tryz.ntmps200;go_wp2_with fail
 rw [B.out];go_loopw [6,7,11] (fun _ _ i I=>∃k:Nat,k≤c.users.length∧i= .int .i64 k∧Hid ((c.users.take k).any (iV a)=false)∧Hid (Below w.heap.size w I)) (fun _ _ i _=>c.users.length - (intOf i).toNat)
 case atStart=>exact ⟨0,Nat.zero_le _,rfl,Lib.hid rfl,u⟩
 case round=>
  obtain ⟨k,hk,rfl,v,n⟩:=hrel
  by_cases g:k < c.users.length
  ·have O:(k:Int) < (c.users.length:Int):=by omega
   obtain ⟨b,q,rfl,o,f⟩:=K.out k 0 g (by omega);obtain ⟨b',P,D,_,d⟩:=K.out k 1 g (by omega);injection D with D;injection D with e1 e2 _;subst e1 e2;rw [Nat.add_zero,tp c.users k g] at f;rw [qD c.users k g] at d;have p:=U.out c.users[k] (List.getElem_mem g);have A:Hid ((c.users.take (k+1)).any (iV a)=iV a c.users[k]):=Lib.hid (by rw [List.take_succ_eq_append_getElem g,List.any_append,v.out];simp);have r:Hid (iV a c.users[k]=true→c.users.any (iV a)=true):=Lib.hid (fun e=>List.any_eq_true.2 ⟨_,List.getElem_mem g,e⟩);obtain ⟨x,L⟩:∃x,c.users[k]=x:=⟨_,rfl⟩;rw [L] at f d p A r;obtain ⟨j,m⟩:=x;simp only at f d p;have d0:wr.cell? ⟨b,q+k * 2,none⟩=some (.string j):=(n.out.cell (by exact o)).trans f;have d1:wr.cell? ⟨b,q+k * 2+1,none⟩=some (.string m):=(n.out.cell (by exact o)).trans d;have E:iV a (j,m)=((a.toList == ((⟨#[0]⟩++j++⟨#[0]⟩)++m).toList) || (a.toList == (j++((⟨#[0]⟩++j++⟨#[0]⟩)++m)).toList)):=rfl;obtain ⟨t1,G⟩:∃t,(a.toList == ((⟨#[0]⟩++j++⟨#[0]⟩)++m).toList)=t:=⟨_,rfl⟩;obtain ⟨t2,H⟩:∃t,(a.toList == (j++((⟨#[0]⟩++j++⟨#[0]⟩)++m)).toList)=t:=⟨_,rfl⟩;rw [G,H] at E;rw [E] at A r;clear L f d E;have s:=Lib.hid (n.out.alloc n.out.size (.cells #[.string j,.string m] 79))
   cases t1 with
   | true=>
    have z:=Lib.hid (r.out (by simp));go_wp2_with fail
    go_ret;exact ⟨by rw [z.out];rfl,s.out⟩
   | false=>
    cases t2 with
    | true=>
     have z:=Lib.hid (r.out (by simp));go_wp2_with fail
     go_ret;exact ⟨by rw [z.out];rfl,s.out⟩
    | false=>
     have y:Hid ((c.users.take (k+1)).any (iV a)=false):=Lib.hid (A.out.trans (by simp));go_wp2_with fail
     exact ⟨⟨k+1,by omega,by go_num,y,s⟩,by simp [intOf];omega⟩
  ·have F:k=c.users.length:=by omega
   subst F;rw [List.take_length] at v;go_wp2_with fail
   go_ret;exact ⟨by rw [v.out];rfl,n.out⟩
structure ko (w:World) (pp:Nat) (c:bX) (vD vN vU vW:Value):Prop where
 blk:∃A:Array Value,w.heap[pp]? =some (.cells A 88 (0,0))∧A.toList.take 9=[.string c.host,vD,vN,vU,.int .i64 c.most,.int .i64 c.size,vW,.int .i64 c.life,.int .i64 c.room]
 rows:jZ w c vD vN vU vW
 may:ij c=true
theorem ko.small {w:World} {a:Nat} {c:bX} {b d e f:Value} (h:ko w a c b d e f):Ge c:=kg h.may
theorem ko.cell {w:World} {a:Nat} {c:bX} {b d e f:Value} (h:ko w a c b d e f) (j:Nat) (i:j < 9):w.cell? ⟨a,j,none⟩=[.string c.host,b,d,e,.int .i64 c.most,.int .i64 c.size,f,.int .i64 c.life,.int .i64 c.room][j]? :=by
 obtain ⟨A,g,k⟩:=h.blk;rw [Lib.cell_of_heap g,←Array.getElem?_toList,←List.getElem?_take_of_lt i,k]
theorem Fc (sb b j:Nat) (C:Array Value) (a:ByteArray) (w:World) (h:bT w sb b C []) (i:C[8]? =some (.pointer (some ⟨j,0,none⟩))):
  Calls Tryz.prog 146 #[.pointer (some ⟨sb,0,none⟩),.string a] w fun e d=>e= .returned (.tuple #[])∧bT d sb b C [[53,48,51,32,102,105,114,115,116,13,10]]∧aL b w d:=by
 have f:=Lib.hid (h.tell (by simp) [53,48,51,32,102,105,114,115,116] (by decide));have k:=(h.cell 8).trans i;clear h;go_enter Tryz.func146,Tryz.ntmps146;go_wp2_with fail
 refine f.out.mono ?_;rintro e l ⟨rfl,g,c⟩;go_wp2_with fail
 refine bodyPost_end (results_none rfl _ _ _) rfl ?_;exact ⟨rfl,g,c⟩
theorem CQ (sb b:Nat) (C:Array Value) (a:ByteArray) (w:World) (h:bT w sb b C []) (j:C[8]? =some (.pointer none)) (i:C[6]? =some (.bool true)):
  Calls Tryz.prog 146 #[.pointer (some ⟨sb,0,none⟩),.string a] w fun e d=>e= .returned (.tuple #[])∧bT d sb b C [[53,48,51,32,102,105,114,115,116,13,10]]∧aL b w d:=by
 have f:=Lib.hid (h.tell (by simp) [53,48,51,32,102,105,114,115,116] (by decide));have l:=(h.cell 8).trans j;have k:=(h.cell 6).trans i;clear h;go_enter Tryz.func146,Tryz.ntmps146;go_wp2_with fail
 refine f.out.mono ?_;rintro e m ⟨rfl,g,c⟩;go_wp2_with fail
 refine bodyPost_end (results_none rfl _ _ _) rfl ?_;exact ⟨rfl,g,c⟩
theorem G6 (sb s z:Nat) (C:Array Value) (c:bX) (I J K L:Value) (f:ByteArray) (w:World) (h:bT w sb s C []) (i:ko w z c I J K L) (G:C[0]? =some (.pointer (some ⟨z,0,none⟩))) (H:C[8]? =some (.pointer none)) (x:C[6]? =some (.bool false)):
  Calls Tryz.prog 146 #[.pointer (some ⟨sb,0,none⟩),.string f] w fun e p=>e= .returned (.tuple #[])∧bT p sb s (if c.users.any (iV f) then C.setIfInBounds 6 (.bool true) else C) [if c.users.any (iV f) then [50,51,53,32,111,107,13,10] else [53,51,53,32,110,111,13,10]]∧(∀k,k < w.heap.size→k≠sb→k≠s→p.heap[k]? =w.heap[k]?)∧dU w p∧w.heap.size≤p.heap.size:=by
 have c8:=(h.cell 8).trans H;have c6:=(h.cell 6).trans x;have c0:=(h.cell 0).trans G;obtain ⟨W,cD,B⟩:=aE i.rows.1;obtain ⟨X,cN,D⟩:=aE i.rows.2.1;obtain ⟨Y,cU,E⟩:=aE i.rows.2.2.1;obtain ⟨Z,cW,F⟩:=aE i.rows.2.2.2;subst B D E F;have N:=i.cell 0 (by decide);have O:=i.cell 1 (by decide);have P:=i.cell 2 (by decide);have Q:=i.cell 3 (by decide);have R:=i.cell 4 (by decide);have S:=i.cell 5 (by decide);have T:=i.cell 6 (by decide);have U:=i.cell 7 (by decide);have V:=i.cell 8 (by decide);simp only [List.getElem?_cons_zero,List.getElem?_cons_succ] at N O P Q R S T U V;have o:=Lib.hid (AM c _ _ _ _ f w i.rows i.small.users i.small.userz);have A:=Lib.hid h;obtain ⟨t,y⟩:∃t,c.users.any (iV f)=t:=⟨_,rfl⟩;rw [y] at o ⊢;clear h i y;go_enter Tryz.func146,Tryz.ntmps146;go_wp2_with fail
 refine o.out.mono ?_;rintro e q ⟨rfl,l⟩;have n:=A.out.below l;have g:=Lib.hid l
 cases t with
 | true=>
  have d6:=(n.cell 6).trans x;have f6:=n.frozen 6;have v:aL sb q (q.setCell ⟨sb,6,none⟩ (.bool true)):=(aL.refl _ _).setCell _;have r:=Lib.hid ((n.set 6 (by decide) (.bool true)).tell (by simp) [50,51,53,32,111,107] (by decide));have m:=Lib.hid v;clear n v l o;go_wp2_with fail
  refine r.out.mono ?_;rintro e M ⟨rfl,u,j⟩;go_wp2_with fail
  refine bodyPost_end (results_none rfl _ _ _) rfl ?_;refine ⟨rfl,u,fun k a b d=>(j.2 k d).trans ((m.out.2 k b).trans (g.out.block k a)),((show dU w q from ⟨g.out.1,g.out.2,g.out.3⟩).trans m.out.3).trans j.3,?_⟩;rw [j.1,m.out.1];exact g.out.size
 | false=>
  have r:=Lib.hid (n.tell (by simp) [53,51,53,32,110,111] (by decide));clear n l o;go_wp2_with fail
  refine r.out.mono ?_;rintro e M ⟨rfl,u,j⟩;go_wp2_with fail
  refine bodyPost_end (results_none rfl _ _ _) rfl ?_;refine ⟨rfl,u,fun k a _ d=>(j.2 k d).trans (g.out.block k a),(show dU w q from ⟨g.out.1,g.out.2,g.out.3⟩).trans j.3,?_⟩;rw [j.1];exact g.out.size
theorem pv {P:Program} {t e:TypeId} {i:TypeInfo} {z:Value} {a:Nat} (F:P.underlying t=some (.slice e)) (E:P.info? e=some i) (H:i.zero=some z) (f:i.size=1) (r:i.bytes=a) (s:z.cells.size=1)
  (w W:World) (v x:Value) (n:Nat) (o:List Value) (l:w.ownsRow 0 e 1 v n o) (G:x.oneCell'=true) (q:Below w.heap.size w W) (D:W.heap[w.heap.size]? =some (.cells #[x] e (0,0))) (p:n+1≤maxLen) (c:(n+1) * a≤140737488355328):
  ∃g b m,(Builtin.append_ #[t,t] t #[v,.slice (some ⟨w.heap.size,0,none⟩) 1 1]).run P W= .ok (.slice (some ⟨g,0,none⟩) (n+1) b) m∧m.ownsRow 0 e 1 (.slice (some ⟨g,0,none⟩) (n+1) b) (n+1) (o++[x])∧aH (fun k=>v.ownBlock=some k) w m∧(v.ownBlock=some g∨w.heap.size≤g):=by
 have d:W.ownsRow 0 e 1 v n o:=ep l fun g A e _=>ae q e;obtain ⟨g,b,m,B,C,h⟩:=gC (P:=P) W t t 0 e i z 1 a F E H f r s (by decide) v n o d ⟨w.heap.size,0,none⟩ 1 1 [x] rfl (World.news_of_block (cs:=#[x]) (t:=e) (fr:=(0,0)) D) (by intro u y;simp at y;rw [y];exact G) (by decide) p c (Nat.zero_le _);refine ⟨g,b,m,B,C,?_,?_⟩
 ·refine (aH.below q:aH (fun k=>v.ownBlock=some k) w W).trans (A1:=fun k=>v.ownBlock=some k) ?_ (fun k _ e=>e)
  rcases h with ⟨j,h⟩ | ⟨_,h⟩
  ·exact (aH.grown h).mono fun k _ e=>j.trans e
  ·exact (aH.grown h).mono fun k _ e=>by cases e
 ·rcases h with ⟨j,_⟩ | ⟨j,_⟩
  ·exact .inl j
  ·exact .inr (by rw [j];exact q.size)
structure si (w:World) (tb:Nat) (vt vb:Value) (frm:List UInt8) (tos:List (List UInt8)):Prop where
 blk:w.heap[tb]? =some (.cells #[.string (bs frm),vt,vb] 216 (0,0))
 row:w.ownsRow 0 9 1 vt tos.length (cm tos)
theorem si.cell {w:World} {c:Nat} {e d:Value} {a:List UInt8} {b:List (List UInt8)} (h:si w c e d a b) (j:Nat):w.cell? ⟨c,j,none⟩=(#[Value.string (bs a),e,d]:Array Value)[j]? :=by rw [Lib.cell_of_heap h.blk]
theorem dm {w:World} {c j n g:Nat} {e:TypeId} {v:Value} {k:List Value} (h:w.ownsRow c e j v n k) (b:v.ownBlock=some g):∃a,w.heap[g]? =some (.cells a e (0,0)):=by
 rcases h.2 with ⟨d,_⟩ | ⟨l,f,a,d,_,i,_⟩
 ·rw [d] at b;cases b
 ·rw [d] at b;injection b with b;subst b;exact ⟨a,i⟩
theorem bC {A:Nat→Prop} {w i:World} {a f n:Nat} {e:TypeId} {v:Value} {j:List Value} (h:w.ownsRow a e f v n j) (m:aH A w i) (o:∀g,v.ownBlock=some g→¬A g):i.ownsRow a e f v n j:=by
 refine ⟨h.1,?_⟩
 rcases h.2 with h | ⟨g,b,c,d,k,l,r⟩
 ·exact .inl h
 ·exact .inr ⟨g,b,c,d,k,m.some_ l (o g (by rw [d];rfl)),r⟩
theorem si.far {w:World} {d:Nat} {f i:Value} {a:List UInt8} {b:List (List UInt8)} (h:si w d f i a b):f.ownBlock≠some d:=fun e=>by
 obtain ⟨g,c⟩:=dm h.row e;rw [h.blk] at c;simp at c
theorem si.chg {A:Nat→Prop} {w i:World} {c:Nat} {d f:Value} {a:List UInt8} {b:List (List UInt8)} (h:si w c d f a b) (e:aH A w i) (j:¬A c) (k:∀g,d.ownBlock=some g→¬A g):si i c d f a b:=⟨e.some_ h.blk j,bC h.row e k⟩
theorem ko.below {w i:World} {b:Nat} {c:bX} {d e f g:Value} (h:ko w b c d e f g) (a:Below w.heap.size w i):ko i b c d e f g:=by
 obtain ⟨A,j,k⟩:=h.blk;exact ⟨⟨A,ae a j,k⟩,h.rows.below a,h.may⟩
theorem bT.chg {A:Nat→Prop} {w d:World} {sb a:Nat} {C:Array Value} {c:List (List UInt8)} (h:bT w sb a C c) (b:aH A w d) (e:¬A sb) (f:¬A a):bT d sb a C c:=by
 obtain ⟨s,r,g⟩:=h.chan;exact ⟨b.some_ h.blk e,h.size,h.told,s,r,b.some_ g f⟩
theorem wU (sb l j:Nat) (C:Array Value) (c:bX) (v x y z:Value) (f b:Bool) (d:List UInt8) (m:Int) (w:World) (h:bT w sb l C []) (a:ko w j c v x y z) (r:C[0]? =some (.pointer (some ⟨j,0,none⟩))) (s:C[4]? =some (.bool f)) (t:C[6]? =some (.bool b)) (u:d.length≤1048576) (i:w.cell? ⟨0,0,none⟩=some (.int .i64 m)):
  Calls Tryz.prog 202 #[.pointer (some ⟨sb,0,none⟩),.string (bs d)] w fun e A=>e= .returned (.bool (f || b || dM c d))∧Below w.heap.size w A:=by
 have P:=(h.cell 0).trans r;have Q:=(h.cell 4).trans s;have R:=(h.cell 6).trans t;obtain ⟨L,S,n⟩:=aE a.rows.1;obtain ⟨M,T,o⟩:=aE a.rows.2.1;obtain ⟨N,U,p⟩:=aE a.rows.2.2.1;obtain ⟨O,V,q⟩:=aE a.rows.2.2.2;subst n o p q;have B:=a.cell 0 (by decide);have D:=a.cell 1 (by decide);have E:=a.cell 2 (by decide);have F:=a.cell 3 (by decide);have G:=a.cell 4 (by decide);have H:=a.cell 5 (by decide);have I:=a.cell 6 (by decide);have J:=a.cell 7 (by decide);have K:=a.cell 8 (by decide);simp only [List.getElem?_cons_zero,List.getElem?_cons_succ] at B D E F G H I J K;have k:=Lib.hid (sw c _ _ _ _ d m w a.rows a.may u i);clear h a i
 cases f with
 | true=>
  go_enter Tryz.func202,Tryz.ntmps202;go_wp2_with fail
  go_ret;exact ⟨rfl,Below.refl _ _⟩
 | false=>
  cases b with
  | true=>
   go_enter Tryz.func202,Tryz.ntmps202;go_wp2_with fail
   go_ret;exact ⟨rfl,Below.refl _ _⟩
  | false=>
   go_enter Tryz.func202,Tryz.ntmps202;go_wp2_with (first | (go_at_call 238;refine k.out.mono ?_;rintro e W ⟨rfl,g⟩) | fail)
   go_ret;exact ⟨rfl,g⟩
def cY (tos:List (List UInt8)) (most:Int) (may:Bool) (name:List UInt8):List (List UInt8):=
 if tos.contains name then tos else if (tos.length:Int)=most then tos else if may then tos++[name] else tos
def b9 (tos:List (List UInt8)) (most:Int) (may:Bool) (name:List UInt8):List UInt8:=
 if tos.contains name then [50,53,48,32,111,107,13,10] else if (tos.length:Int)=most then [52,53,50,32,109,97,110,121,13,10] else if may then [50,53,48,32,111,107,13,10] else [53,53,48,32,110,111,13,10]
theorem zT (sb H pp q:Nat) (C:Array Value) (c:bX) (vD vN vU vW vt vb:Value) (j f:Bool) (S a:List UInt8) (d:List (List UInt8)) (m:Int) (w:World) (h:bT w sb H C []) (hc:ko w pp c vD vN vU vW) (N:si w q vt vb S d) (h0:C[0]? =some (.pointer (some ⟨pp,0,none⟩))) (h4:C[4]? =some (.bool j)) (h6:C[6]? =some (.bool f)) (h8:C[8]? =some (.pointer (some ⟨q,0,none⟩))) (hn:a.length≤1048576) (hl:d.length≤10) (hm:w.cell? ⟨0,0,none⟩=some (.int .i64 m)):
  Calls Tryz.prog 148 #[.pointer (some ⟨sb,0,none⟩),.string (bs a)] w fun e w'=>e= .returned (.tuple #[])∧bT w' sb H C [b9 d c.most (j || f || dM c a) a]∧∃a7,si w' q a7 vb S (cY d c.most (j || f || dM c a) a)∧aH (fun k=>k=H∨k=q∨vt.ownBlock=some k) w w'∧∀k,a7.ownBlock=some k→vt.ownBlock=some k∨w.heap.size≤k:=by
 have c0:=(h.cell 0).trans h0;have c8:=(h.cell 8).trans h8;have t1:w.cell? ⟨q,1,none⟩=some vt:=N.cell 1;have y4:=hc.cell 4 (by decide);simp only [List.getElem?_cons_zero,List.getElem?_cons_succ] at y4;have A:=aF N.row;obtain ⟨av,cv,ev⟩:=aE A;subst ev;have O:Hid (∀W:World,Below w.heap.size w W→Calls Tryz.prog 202 #[.pointer (some ⟨sb,0,none⟩),.string (bs a)] W fun e w'=>e= .returned (.bool (j || f || dM c a))∧Below W.heap.size W w'):=Lib.hid (fun W hb=>wU sb H pp C c vD vN vU vW j f a m W (h.below hb) (hc.below hb) h0 h4 h6 hn ((hb.cell (eI hm)).trans hm));have v:=Lib.hid (mw d a _ w A (by omega));have D:H≠q:=fun e=>by obtain ⟨s,r,L⟩:=h.chan;rw [e,N.blk] at L;simp at L
 have J:∀g,(Value.slice av d.length cv).ownBlock=some g→H≠g:=fun g U e=>by
  obtain ⟨s,r,L⟩:=h.chan;obtain ⟨R,h1⟩:=dm N.row U;rw [e,h1] at L;simp at L
 have b7:=Lib.hid (h.tell (by simp) [50,53,48,32,111,107] (by decide));have HH:=Lib.hid h;have HT:=Lib.hid N;have G:=Lib.hid J
 cases l:d.contains a with
 | true=>
  rw [l] at v;have X:Hid (b9 d c.most (j || f || dM c a) a=[50,53,48,32,111,107,13,10]):=Lib.hid (by unfold b9;rw [l];rfl);have Y:Hid (cY d c.most (j || f || dM c a) a=d):=Lib.hid (by unfold cY;rw [l];rfl);rw [X.out,Y.out];clear h hc N A hm l J;go_enter Tryz.func148,Tryz.ntmps148;go_wp2_with fail
  refine v.out.mono ?_;rintro e K ⟨rfl,rfl⟩;go_wp2_with fail
  refine b7.out.mono ?_;rintro e E ⟨rfl,F,z⟩;go_wp2_with fail
  refine bodyPost_end (results_none rfl _ _ _) rfl ?_;exact ⟨rfl,F,_,HT.out.chg (aH.same z) (fun e=>D e.symm) (fun g U e=>G.out g U e.symm),(aH.same z).mono (fun _ _ e=> .inl e),fun k e=> .inl e⟩
 | false=>
  rw [l] at v
  by_cases p:(d.length:Int)=c.most
  ·have X:Hid (b9 d c.most (j || f || dM c a) a=[52,53,50,32,109,97,110,121,13,10]):=Lib.hid (by unfold b9;rw [l,if_pos p];rfl);have Y:Hid (cY d c.most (j || f || dM c a) a=d):=Lib.hid (by unfold cY;rw [l,if_pos p];rfl);rw [X.out,Y.out];have c3:((d.length:Int) == c.most)=true:=by rw [beq_iff_eq];exact p
   clear h hc N A hm l J p O;go_enter Tryz.func148,Tryz.ntmps148;go_wp2_with fail
   refine v.out.mono ?_;rintro e K ⟨rfl,rfl⟩;go_wp2_with fail
   go_quiet (fail)
   have n:=bA nq w w.heap.size;obtain ⟨K,B⟩:∃K,w.drewN nq=K:=⟨_,rfl⟩;rw [B] at n ⊢;have b6:=Lib.hid ((HH.out.below n).tell (by simp) [52,53,50,32,109,97,110,121] (by decide));have K1:aH (fun _=>False) w K:=aH.below n;have a1:=Lib.hid K1;clear n B K1;go_wp2_with fail
   refine b6.out.mono ?_;rintro e E ⟨rfl,F,z⟩;go_wp2_with fail
   refine bodyPost_end (results_none rfl _ _ _) rfl ?_;exact ⟨rfl,F,_,(HT.out.chg a1.out (fun e=>e) (fun _ _ e=>e)).chg (aH.same z) (fun e=>D e.symm) (fun g U e=>G.out g U e.symm),(a1.out.mono (fun _ _ e=>e.elim)).trans (aH.same z) (fun _ _ e=> .inl e),fun k e=> .inl e⟩
  ·have c3:((d.length:Int) == c.most)=false:=by rw [beq_eq_false_iff_ne];exact p
   have X:Hid (∀b:Bool,b9 d c.most b a=if b then [50,53,48,32,111,107,13,10] else [53,53,48,32,110,111,13,10]):=Lib.hid (fun b=>by unfold b9;rw [l,if_neg p];rfl);have Y:Hid (∀b:Bool,cY d c.most b a=if b then d++[a] else d):=Lib.hid (fun b=>by unfold cY;rw [l,if_neg p];rfl);obtain ⟨c7,M⟩:∃b,(j || f || dM c a)=b:=⟨_,rfl⟩;rw [M] at O ⊢;rw [X.out,Y.out];clear h hc N A hm l J p M X Y;go_enter Tryz.func148,Tryz.ntmps148;go_wp2_with fail
   refine v.out.mono ?_;rintro e K ⟨rfl,rfl⟩;go_wp2_with fail
   go_quiet (fail)
   have n:=bA nq w w.heap.size;have T:=O.out _ n;obtain ⟨K,B⟩:∃K,w.drewN nq=K:=⟨_,rfl⟩;rw [B] at n T ⊢;have b0:=Lib.hid T;have a0:=Lib.hid n;clear B n T;go_wp2_with fail
   refine b0.out.mono ?_;rintro e E ⟨rfl,t⟩;replace t:=a0.out.trans (t.mono a0.out.size);have K2:aH (fun _=>False) w E:=aH.below t;have F:=HH.out.below t;have x:=HT.out.chg K2 (fun e=>e) (fun _ _ e=>e)
   cases c7 with
   | false=>
    have Q:=Lib.hid (F.tell (by simp) [53,53,48,32,110,111] (by decide));have b2:=Lib.hid x;have a8:=Lib.hid K2;clear F x t K2;go_wp2_with fail
    refine Q.out.mono ?_;rintro e w3 ⟨rfl,h3,a2⟩;go_wp2_with fail
    refine bodyPost_end (results_none rfl _ _ _) rfl ?_;exact ⟨rfl,h3,_,b2.out.chg (aH.same a2) (fun e=>D e.symm) (fun g U e=>G.out g U e.symm),(a8.out.mono (fun _ _ e=>e.elim)).trans (aH.same a2) (fun _ _ e=> .inl e),fun k e=> .inl e⟩
   | true=>
    have d1:E.cell? ⟨q,1,none⟩=some (.slice av d.length cv):=x.cell 1;have e1:∀o:Obj,(E.alloc o).cell? ⟨q,1,none⟩=some (.slice av d.length cv):=fun o=>by rw [Lib.cell_of_heap ((((Below.refl E.heap.size E).alloc (Nat.le_refl _) o).block q (ah x.blk)).trans x.blk)];rfl
    obtain ⟨i,hi,c4,c5,c6⟩:=info_parts uk;obtain ⟨g,y,W4,a5,I,K4,c2⟩:=pv (P:=Tryz.prog) Tryz.underlying25 hi c4 c5 c6 rfl E (E.alloc (.cells #[.string (bs a)] 9)) _ (.string (bs a)) d.length (cm d) x.row rfl ((Below.refl _ _).alloc (Nat.le_refl _) _) (heap_alloc_new E _) (by unfold maxLen;omega) (by omega);have b4:=K4.some_ x.blk (x.far);have d4:W4.cell? ⟨q,1,none⟩=some (.slice av d.length cv):=by rw [Lib.cell_of_heap b4];rfl
    have f4:=Lib.frozen_of_heap b4 1;have Z:aL q W4 (W4.setCell ⟨q,1,none⟩ (.slice (some ⟨g,0,none⟩) (d.length+1) y)):=(aL.refl _ _).setCell _;have b5:=heap_setCell_same W4 q 1 _ _ (.slice (some ⟨g,0,none⟩) (d.length+1) y) b4;obtain ⟨W5,c1⟩:∃W5:World,W4.setCell ⟨q,1,none⟩ (.slice (some ⟨g,0,none⟩) (d.length+1) y)=W5:=⟨_,rfl⟩;rw [c1] at Z b5
    have a6:q≠g:=fun e=>by
     obtain ⟨R,V⟩:=dm I (g:=g) rfl;rw [←e,b4] at V;simp at V
    have T5:si W5 q (.slice (some ⟨g,0,none⟩) (d.length+1) y) vb S (d++[a]):=⟨b5,by
     have:=bC I (aH.same Z) (fun k u e=>a6 (by injection u with u;exact e.symm.trans u.symm));rw [List.length_append]
     simpa [cm] using this⟩
    have h5:=(F.chg K4 (fun e=>by
     obtain ⟨R,V⟩:=dm x.row e;rw [F.blk] at V
     simp at V) (fun e=>G.out H e rfl)).same Z (fun e=>by have:=F.blk;rw [e,x.blk] at this;simp at this) D
    have Q:=Lib.hid (h5.tell (by simp) [50,53,48,32,111,107] (by decide));have K5:aH (fun k=>k=H∨k=q∨(Value.slice av d.length cv).ownBlock=some k) w W5:=((K2.mono (fun _ _ e=>e.elim)).trans K4 (fun k _ e=> .inr (.inr e))).trans (aH.same Z) (fun k _ e=> .inr (.inl e))
    have a4:H≠g:=fun e=>by
     obtain ⟨s,r,L⟩:=h5.chan;obtain ⟨R,V⟩:=dm I (g:=g) rfl;rw [e,Z.2 g (fun e=>a6 e.symm),V] at L;simp at L
    have b3:=Lib.hid T5;have a9:=Lib.hid K5;have b1:=Lib.hid a5;have c9:w.heap.size≤E.heap.size:=t.size;clear F x t K2 b4 b5 Z T5 h5 K5 K4 I a5
    go_wp2_with (first
     | (at_builtin;refine bB rfl _ _ 25 rfl _ _ (.slice (some ⟨g,0,none⟩) (d.length+1) y) W4 rfl rfl b1.out ?_)
     | fail)
    refine Q.out.mono ?_;rintro e w6 ⟨rfl,b8,a3⟩;go_wp2_with fail
    refine bodyPost_end (results_none rfl _ _ _) rfl ?_;exact ⟨rfl,b8,_,b3.out.chg (aH.same a3) (fun e=>D e.symm) (fun k u e=>a4 (by injection u with u;exact e.symm.trans u.symm)),a9.out.trans (aH.same a3) (fun _ _ e=> .inl e),fun k u=>c2.elim (fun e=> .inl (by injection u with u;exact e.trans (congrArg some u))) (fun e=> .inr (by injection u with u;have u:g=k:=u;omega))⟩
def tw (w:World):Prop:=Lib.TabIs Tryz.prog w "internal/strconv.uint64pow10" .u64 Lib.pow10Tab
theorem yb:Tryz.prog.globalNamed "internal/strconv.uint64pow10"=some 6:=by kernel_rfl
theorem tw.block {w a:World} (h:tw w) (e:a.heap[6]? =w.heap[6]?):tw a:=by
 unfold tw Lib.TabIs World.var? at h ⊢;rw [yb] at h ⊢;simp only [Option.bind_some] at h ⊢;rw [e];exact h
theorem tw.lt {w:World} (h:tw w):6 < w.heap.size:=by
 unfold tw Lib.TabIs World.var? at h;rw [yb] at h;simp only [Option.bind_some] at h
 rcases hh:w.heap[6]? with _ | o
 ·rw [hh] at h;simp at h
 ·exact ah hh
theorem tw.below {w a:World} (h:tw w) (b:Below w.heap.size w a):tw a:=h.block (b.block _ h.lt)
theorem tw.chg {A:Nat→Prop} {w a:World} (h:tw w) (b:aH A w a) (c:¬A 6):tw a:=h.block (b.block _ h.lt c)
theorem tw.same {b:Nat} {w a:World} (h:tw w) (d:aL b w a) (c:b≠6):tw a:=h.block (d.2 _ (Ne.symm c))
theorem EC (w:World) (k:Nat) (a:Array Obj):Below w.heap.size w (Sort.grow (w.drewN k) a):=by
 have h:=bA k w w.heap.size;refine ⟨h.os,h.tape,h.output,?_,fun j b=>?_⟩
 ·show w.heap.size≤((w.drewN k).heap++a).size;rw [Array.size_append];have:=h.size;omega
 ·show ((w.drewN k).heap++a)[j]? =_;rw [Array.getElem?_append_left (Nat.lt_of_lt_of_le b h.size)];exact h.block j b
theorem AP (n:Int) (b: -9223372036854775808≤n) (c:n≤9223372036854775807) (w:World) (d:tw w):
  Calls Tryz.prog 196 #[.int .i64 n] w fun e a=>e= .returned (.string (bs (Lib.itoa n)))∧Below w.heap.size w a:=by
 refine (Tryz.strconv_Itoa n b c w d).mono ?_;rintro e a ⟨rfl,k,f,rfl⟩;exact ⟨rfl,EC w k f⟩
theorem kZ (n:Nat):∀k,n < 10 ^ (k+1)→(Lib.decDigits n).length≤k+1:=by
 induction n using Nat.strongRecOn with
 | ind n ih=>
  intro k a;rw [Lib.decDigits]
  split
  ·simp
  ·rename_i h
   cases k with
   | zero=>omega
   | succ k=>
    have:=ih (n / 10) (by omega) k (by rw [Nat.pow_succ] at a;omega);simp;omega
theorem wE (sb l i:Nat) (C:Array Value) (b:List UInt8) (a:Int) (w:World) (h:bT w sb l C []) (M:C[0]? =some (.pointer (some ⟨i,0,none⟩))) (X:w.cell? ⟨i,0,none⟩=some (.string (bs b))) (J:w.cell? ⟨i,5,none⟩=some (.int .i64 a)) (p:i≠sb) (H:i≠l) (hl:b.length≤255) (P:tw w) (I:sb≠6) (G:l≠6) (a0:0≤a) (a1:a≤1000):
  Calls Tryz.prog 145 #[.pointer (some ⟨sb,0,none⟩)] w fun e Q=>e= .returned (.tuple #[])∧bT Q sb l ((C.setIfInBounds 5 (.bool true)).setIfInBounds 8 (.pointer none)) [[50,53,48,45]++b++[13,10],[50,53,48,45,83,73,90,69,32]++Lib.itoa a++[13,10],[50,53,48,32,65,85,84,72,32,80,76,65,73,78,13,10]]∧aH (fun k=>k=sb∨k=l) w Q:=by
 have hz:=h.size;obtain ⟨v5,K⟩:∃q,C[5]? =some q:=⟨_,Array.getElem?_eq_getElem (by omega)⟩;have c5:=(h.cell 5).trans K;have f5:=h.frozen 5;have c0:=(h.cell 0).trans M;have A:aL sb w (w.setCell ⟨sb,5,none⟩ (.bool true)):=(aL.refl _ _).setCell _;have Y:(w.setCell ⟨sb,5,none⟩ (.bool true)).cell? ⟨i,0,none⟩=some (.string (bs b)):=(A.cell p).trans X;have L:=h.set 5 (by decide) (.bool true);have o:=P.same A I;have V:=Lib.hid (L.tell (by simp) ([50,53,48,45]++b) (by rw [List.length_append];simp;omega));have g:(⟨#[50,53,48,45]⟩:ByteArray)++bs b=bs ([50,53,48,45]++b):=cE [50,53,48,45] b;have c:(⟨#[50,53,48,45,83,73,90,69,32]⟩:ByteArray)++bs (Lib.itoa a)=bs ([50,53,48,45,83,73,90,69,32]++Lib.itoa a):=cE [50,53,48,45,83,73,90,69,32] _
 have Z:(Lib.itoa a).length≤4:=by
  unfold Lib.itoa;rw [if_neg (by omega)];exact kZ _ 3 (by omega)
 have T:=Lib.hid g;have r:=Lib.hid c;have O:=aG b;have a2:=aG (Lib.itoa a);have B:(C.setIfInBounds 5 (.bool true))[0]? =some (.pointer (some ⟨i,0,none⟩)):=by rw [Array.getElem?_setIfInBounds_ne (by decide)];exact M
 have U:Hid (tw (w.setCell ⟨sb,5,none⟩ (.bool true))):=Lib.hid o;have m:=Lib.hid A;clear h L g c P o;go_enter_defers Tryz.func145,Tryz.ntmps145
 go_wp2_with fail
 rw [T.out];refine V.out.mono ?_;rintro e R ⟨rfl,D,d⟩;have d0:=(D.cell 0).trans B;have d5:R.cell? ⟨i,5,none⟩=some (.int .i64 a):=(d.cell H).trans ((m.out.cell p).trans J);have u:Hid (tw R):=Lib.hid (U.out.same d G);have t:=Lib.hid D;have v:=Lib.hid d;clear D d;go_wp2_with fail
 refine (AP a (by omega) (by omega) _ u.out).mono ?_;rintro e w2 ⟨rfl,j⟩;have y:=Lib.hid ((t.out.below j).tell (by simp) ([50,53,48,45,83,73,90,69,32]++Lib.itoa a) (by rw [List.length_append];simp;omega));have s:=Lib.hid j;clear j;go_wp2_with fail
 rw [r.out];refine y.out.mono ?_;rintro e w3 ⟨rfl,N,n⟩;have z:=Lib.hid (N.tell (by simp) [50,53,48,32,65,85,84,72,32,80,76,65,73,78] (by decide));have x:=Lib.hid n;clear N n;go_wp2_with fail
 refine z.out.mono ?_;rintro e S ⟨rfl,E,F⟩;obtain ⟨q,hv⟩:∃q,(C.setIfInBounds 5 (.bool true))[8]? =some q:=⟨_,Array.getElem?_eq_getElem (by simp;omega)⟩;have W:aL sb S (S.setCell ⟨sb,8,none⟩ (.pointer none)):=(aL.refl _ _).setCell _;go_wp2_with fail
 refine leaves_cons (f:=194) (args:=#[.pointer (some ⟨sb,0,none⟩)]) (by simp) (by simp [go_sem]) ?_;refine (oa sb q .returning _ ((E.cell 8).trans hv) (E.frozen 8)).mono ?_;rintro e u' a3 ⟨rfl,rfl,rfl⟩;refine ⟨_,results_none rfl _ _ _,rfl,by simpa using E.set 8 (by decide) (.pointer none),?_⟩
 exact (((((aH.same m.out).mono (fun _ _ e=> .inl e):aH (fun k=>k=sb∨k=l) w _).trans (aH.same v.out) (fun _ _ e=> .inr e)).trans (aH.below s.out:aH (fun _=>False) _ _) (fun k _ e=>e.elim)).trans (aH.same x.out) (fun _ _ e=> .inr e) |>.trans (aH.same F) (fun _ _ e=> .inr e)).trans (aH.same W) (fun _ _ e=> .inl e)
structure mK where
 frm:List UInt8
 tos:List (List UInt8)
 body:Option dW
structure bG where
 nets:Bool
 greeted:Bool
 known:Bool
 over:Bool
 wait:List UInt8
 tx:Option mK
def rm (w:World) (A:Nat→Prop) (vb:Value):Option dW→Prop
 | none=>vb= .pointer none
 | some b=>∃bb vy,vb= .pointer (some ⟨bb,0,none⟩)∧A bb∧gl w bb vy b∧∀g,vy.ownBlock=some g→A g
def oh (w:World) (A:Nat→Prop) (vx:Value):Option mK→Prop
 | none=>vx= .pointer none
 | some t=>∃tb vt vb,vx= .pointer (some ⟨tb,0,none⟩)∧A tb∧si w tb vt vb t.frm t.tos∧(∀g,vt.ownBlock=some g→A g)∧rm w A vb t.body
def iq (pp pb ch:Nat) (vw vx:Value) (s:bG):Array Value:=#[.pointer (some ⟨pp,0,none⟩),.pointer (some ⟨pb,0,none⟩),vw,.chan (some ch),.bool s.nets,.bool s.greeted,.bool s.known,.bool s.over,vx]
structure cI (w:World) (A:Nat→Prop) (pp pb sb ch:Nat) (vw:Value) (ls:List (List UInt8)) (s:bG):Prop where
 ex:∃vx,bT w sb ch (iq pp pb ch vw vx s) ls∧oh w A vx s.tx
 asb:A sb
 ach:A ch
 lt:∀k,A k→k < w.heap.size
def zF (t:TypeId):Prop:=t=216∨t=9∨t=253∨t=5
section
variable {w w':World} {A A' B:Nat→Prop} {pp pb sb ch:Nat} {vw vx vb:Value} {ls:List (List UInt8)} {s:bG}
theorem rm.off {o:Option dW} (h:rm w A vb o) (n:aH B w w') (i:∀k C t z,A k→w.heap[k]? =some (.cells C t z)→zF t→¬B k):rm w' A vb o:=by
 cases o with
 | none=>exact h
 | some b=>
  obtain ⟨d,p,e,a,c,f⟩:=h
  exact ⟨d,p,e,a,c.chg n (i d _ _ _ a c.blk (.inr (.inr (.inl rfl)))) (fun g j=>by
   obtain ⟨l,z,m⟩:=gB c.row j
   exact i g _ _ _ (f g j) m (.inr (.inr (.inr rfl)))),f⟩
theorem oh.off {o:Option mK} (h:oh w A vx o) (f:aH B w w') (c:∀k C t z,A k→w.heap[k]? =some (.cells C t z)→zF t→¬B k):oh w' A vx o:=by
 cases o with
 | none=>exact h
 | some t=>
  obtain ⟨j,p,vb,e,a,b,d,m⟩:=h
  exact ⟨j,p,vb,e,a,b.chg f (c j _ _ _ a b.blk (.inl rfl)) (fun g i=>by
   obtain ⟨l,n⟩:=dm b.row i
   exact c g _ _ _ (d g i) n (.inr (.inl rfl))),d,m.off f c⟩
theorem rm.mono {o:Option dW} (h:rm w A vb o) (c:∀k,A k→A' k):rm w A' vb o:=by
 cases o with
 | none=>exact h
 | some b=>
  obtain ⟨d,l,e,a,f,i⟩:=h;exact ⟨d,l,e,c _ a,f,fun g j=>c _ (i g j)⟩
theorem oh.mono {o:Option mK} (h:oh w A vx o) (b:∀k,A k→A' k):oh w A' vx o:=by
 cases o with
 | none=>exact h
 | some t=>
  obtain ⟨j,l,vb,e,a,c,d,f⟩:=h;exact ⟨j,l,vb,e,b _ a,c,fun g i=>b _ (d g i),f.mono b⟩
theorem cI.chg (h:cI w A pp pb sb ch vw ls s) (c:aH B w w') (b:∀k,A k→¬B k):cI w' A pp pb sb ch vw ls s:=by
 obtain ⟨vx,d,e⟩:=h.ex;exact ⟨⟨vx,d.chg c (b _ h.asb) (b _ h.ach),e.off c (fun k _ _ _ a _ _=>b k a)⟩,h.asb,h.ach,fun k f=>Nat.lt_of_lt_of_le (h.lt k f) c.size⟩
theorem cI.below (h:cI w A pp pb sb ch vw ls s) (a:Below w.heap.size w w'):cI w' A pp pb sb ch vw ls s:=h.chg (aH.below a:aH (fun _=>False) w w') (fun _ _ e=>e)
theorem tg {C:Array Value} (h:bT w sb ch C ls):∀k D t z,w.heap[k]? =some (.cells D t z)→zF t→¬(k=sb∨k=ch):=by
 rintro k D t z e b (rfl | rfl)
 ·rw [h.blk] at e;injection e with e;injection e with _ e _;subst e
  revert b
  unfold zF;decide
 ·obtain ⟨s,r,a⟩:=h.chan;rw [a] at e
  cases e
theorem cI.back (h:cI w A pp pb sb ch vw ls s) {a:Value} {b:List (List UInt8)} {c:bG} (e:bT w' sb ch (iq pp pb ch vw a c) b) (g:oh w' A' a c.tx) (d:∀k,A k→A' k) (f:∀k,A' k→k < w'.heap.size):cI w' A' pp pb sb ch vw b c:=
 ⟨⟨a,e,g⟩,d _ h.asb,d _ h.ach,f⟩
end
theorem cI.tell {w:World} {A:Nat→Prop} {pp pb sb ch:Nat} {vw:Value} {ls:List (List UInt8)} {s:bG} (h:cI w A pp pb sb ch vw ls s) (j:ls.length < 3) (l:List UInt8) (n:l.length≤1048576):
  Calls Tryz.prog 62 #[.pointer (some ⟨sb,0,none⟩),.string (bs l)] w fun e w'=>e= .returned (.tuple #[])∧cI w' A pp pb sb ch vw (ls++[l++[13,10]]) s∧aH A w w':=by
 obtain ⟨vx,b,d⟩:=h.ex;refine (b.tell j l n).mono ?_;rintro e w' ⟨rfl,f,g⟩;have a:aH (fun k=>k=ch) w w':=aH.same g;refine ⟨rfl,⟨⟨vx,f,d.off a (fun k C t z _ e m c=>tg b k C t z e m (.inr c))⟩,h.asb,h.ach,fun k i=>Nat.lt_of_lt_of_le (h.lt k i) a.size⟩,a.mono (fun k _ e=>by rw [e];exact h.ach)⟩
theorem bg.chg {A:Nat→Prop} {w w':World} {v:Value} {n o:Nat} {f:List Value} (h:bg w v n o f) (q:aH A w w') (t:∀g,v.ownBlock=some g→¬A g):bg w' v n o f:=by
 refine ⟨h.1,?_⟩
 rcases h.2 with p | ⟨b,m,d,e,k,a⟩
 ·exact .inl p
 ·refine .inr ⟨b,m,d,e,k,fun j r=>?_⟩;have i:=a j r
  have l:b < w.heap.size:=by
   rcases hv:f[j]? with _ | x
   ·have:=h.1;rw [List.getElem?_eq_none_iff] at hv;omega
   ·rw [hv] at i;exact eI i
  rw [←i];exact World.cell?_of_block (q.block b l (t b (by rw [e];rfl)))
theorem JC {A:Nat→Prop} {w w':World} {g h:Nat} (a:Lib.Utf8Tabs g h w) (b:aH A w w') (j:g < w.heap.size) (l:h < w.heap.size) (n:¬A g) (p:¬A h):Lib.Utf8Tabs g h w':=by
 have m:∀o,w'.cell? ⟨g,o,none⟩=w.cell? ⟨g,o,none⟩:=fun o=>World.cell?_of_block (b.block _ j n);have e:∀o,w'.cell? ⟨h,o,none⟩=w.cell? ⟨h,o,none⟩:=fun o=>World.cell?_of_block (b.block _ l p);exact ⟨fun k f=>(m k).trans (a.1 k f),fun i d=>⟨(e _).trans (a.2 i d).1,(e _).trans (a.2 i d).2⟩⟩
structure gg (E:Nat→Prop) (w:World) (pp:Nat) (c:bX):Prop where
 set:∃vD vN vU vW,ko w pp c vD vN vU vW∧∀k,(vD.ownBlock=some k∨vN.ownBlock=some k∨vU.ownBlock=some k∨vW.ownBlock=some k)→E k
 epp:E pp
 len:∃n,w.cell? ⟨0,0,none⟩=some (.int .i64 n)
 elen:E 0
 pow:tw w
 epow:E 6
 utf:Lib.Utf8Tabs 2 3 w
 efir:E 2
 eacc:E 3
 lt:∀k,E k→k < w.heap.size
section
variable {E A:Nat→Prop} {w w':World} {pp:Nat} {c:bX}
theorem gg.chg (h:gg E w pp c) (b:aH A w w') (a:∀k,E k→¬A k):gg E w' pp c:=by
 obtain ⟨o,p,q,r,d,f⟩:=h.set;obtain ⟨D,i,j⟩:=d.blk;obtain ⟨n,m⟩:=h.len;refine ⟨⟨o,p,q,r,⟨⟨D,b.some_ i (a _ h.epp),j⟩,⟨d.rows.1.chg b (fun g e=>a g (f g (.inl e))),d.rows.2.1.chg b (fun g e=>a g (f g (.inr (.inl e)))),d.rows.2.2.1.chg b (fun g e=>a g (f g (.inr (.inr (.inl e))))),d.rows.2.2.2.chg b (fun g e=>a g (f g (.inr (.inr (.inr e)))))⟩,d.may⟩,f⟩,h.epp,⟨n,?_⟩,h.elen,h.pow.chg b (a _ h.epow),h.epow,JC h.utf b (h.lt _ h.efir) (h.lt _ h.eacc) (a _ h.efir) (a _ h.eacc),h.efir,h.eacc,fun k l=>Nat.lt_of_lt_of_le (h.lt k l) b.size⟩;rw [←m];exact World.cell?_of_block (b.block _ (h.lt _ h.elen) (a _ h.elen))
theorem gg.below (h:gg E w pp c) (a:Below w.heap.size w w'):gg E w' pp c:=h.chg (aH.below a:aH (fun _=>False) w w') (fun _ _ e=>e)
theorem gg.may (h:gg E w pp c):ij c=true:=by
 obtain ⟨_,_,_,_,a,_⟩:=h.set;exact a.may
end
structure og where
 verb:Nat
 name:List UInt8
 size:Nat
 shown:List UInt8
def jD:List UInt8:=[50,53,48,32,111,107,13,10]
def zm:List UInt8:=[53,48,48,32,119,104,97,116,13,10]
def G8:List UInt8:=[53,48,49,32,104,111,119,13,10]
def ni:List UInt8:=[53,48,51,32,102,105,114,115,116,13,10]
def uw:List UInt8:=[53,53,50,32,115,105,122,101,13,10]
def G7:List UInt8:=[50,50,49,32,98,121,101,13,10]
def zl:List UInt8:=[51,53,52,32,103,111,13,10]
def Fe:List UInt8:=[50,51,53,32,111,107,13,10]
def G9:List UInt8:=[53,51,53,32,110,111,13,10]
def CR:List UInt8:=[52,53,50,32,114,111,111,109,13,10]
def cQ (c:bX):List UInt8:=c.host.data.toList
def fO (s:bG) (v:Nat):Bool:=jA v s.greeted (s.tx.map fun t=>t.tos.length)
def bz (c:bX) (s:bG) (k:og):bG×List (List UInt8):=
 if fO s k.verb=false then (s,[ni]) else
 match k.verb with
 | 0=>(s,[zm])
 | 1=>(s,[G8])
 | 2=>({s with over:=true},[G7])
 | 3=>(s,[jD])
 | 4=>({s with tx:=none},[jD])
 | 5=>(match s.tx with | some t=>({s with tx:=some {t with body:=some ⟨[],false,false⟩}},[zl]) | none=>(s,[]))
 | 6=>({s with greeted:=true,tx:=none},[[50,53,48,32]++cQ c++[13,10]])
 | 7=>({s with greeted:=true,tx:=none},[[50,53,48,45]++cQ c++[13,10],[50,53,48,45,83,73,90,69,32]++Lib.itoa c.size++[13,10],[50,53,48,32,65,85,84,72,32,80,76,65,73,78,13,10]])
 | 8=>if s.tx.isSome || s.known then (s,[ni]) else if c.users.any (iV (bs k.shown)) then ({s with known:=true},[Fe]) else (s,[G9])
 | 9=>if s.tx.isSome then (s,[ni]) else if c.size < (k.size:Int) then (s,[uw]) else ({s with tx:=some ⟨k.name,[],none⟩},[jD])
 | 10=>(match s.tx with | some t=>({s with tx:=some {t with tos:=cY t.tos c.most (s.nets || s.known || dM c k.name) k.name}},[b9 t.tos c.most (s.nets || s.known || dM c k.name) k.name]) | none=>(s,[]))
 | _=>(s,[])
def cP (A:Nat→Prop) (pp pb sb ch:Nat) (vw:Value) (w:World) (s':bG) (ls':List (List UInt8)) (e:Ending) (w':World):Prop:=
 e= .returned (.tuple #[])∧∃A',cI w' A' pp pb sb ch vw ls' s'∧(∀k,A k→A' k)∧(∀k,A' k→A k∨w.heap.size≤k)∧aH A w w'
theorem cP.from {A:Nat→Prop} {pp pb sb ch:Nat} {vw:Value} {w b w':World} {f:bG} {a:List (List UInt8)} {e:Ending} (d:Below w.heap.size w b) (h:cP A pp pb sb ch vw b f a e w'):cP A pp pb sb ch vw w f a e w':=by
 obtain ⟨i,g,j,l,m,n⟩:=h;exact ⟨i,g,j,l,fun k o=>(m k o).imp id (fun e=>Nat.le_trans d.size e),(aH.below d:aH A w b).trans n (fun k _ e=>e)⟩
section
variable {A:Nat→Prop} {pp pb sb ch:Nat} {vw:Value} {w:World} {s:bG}
theorem cI.told1 (h:cI w A pp pb sb ch vw [] s) (l:List UInt8) (f:l.length≤1048576):Calls Tryz.prog 62 #[.pointer (some ⟨sb,0,none⟩),.string (bs l)] w (cP A pp pb sb ch vw w s [l++[13,10]]):=by
 refine (h.tell (by simp) l f).mono ?_;rintro e w' ⟨rfl,b,d⟩;exact ⟨rfl,A,b,fun _ a=>a,fun _ a=> .inl a,d⟩
theorem jO {w':World} {s':bG} {b:List (List UInt8)} {C:Array Value} {vx':Value} (h:cI w A pp pb sb ch vw [] s) (f:bT w sb ch C []) (d:aH (fun k=>k=sb∨k=ch) w w') (g:bT w' sb ch (iq pp pb ch vw vx' s') b) (l:oh w A vx' s'.tx):cP A pp pb sb ch vw w s' b (.returned (.tuple #[])) w':=
 ⟨rfl,A,⟨⟨vx',g,l.off d (fun k C t z _ e j=>tg f k C t z e j)⟩,h.asb,h.ach,fun k i=>Nat.lt_of_lt_of_le (h.lt k i) d.size⟩,fun _ a=>a,fun _ a=> .inl a,d.mono (fun k _ e=>by rcases e with e | e <;> rw [e];exact h.asb;exact h.ach)⟩
theorem pD {w':World} (b:∀k,k < w.heap.size→k≠sb→k≠ch→w'.heap[k]? =w.heap[k]?) (d:dU w w') (f:w.heap.size≤w'.heap.size):aH (fun k=>k=sb∨k=ch) w w':=⟨f,fun k g a=>b k g (fun e=>a (.inl e)) (fun e=>a (.inr e)),d⟩
theorem cI.quit (h:cI w A pp pb sb ch vw [] s):Calls Tryz.prog 142 #[.pointer (some ⟨sb,0,none⟩)] w (cP A pp pb sb ch vw w {s with over:=true} [G7]):=by
 obtain ⟨g,a,b⟩:=h.ex;refine (Iq sb ch _ w a).mono ?_;rintro e w' ⟨rfl,d,f⟩;exact jO h a f (s':={s with over:=true}) d b
theorem cI.reset (h:cI w A pp pb sb ch vw [] s):Calls Tryz.prog 143 #[.pointer (some ⟨sb,0,none⟩)] w (cP A pp pb sb ch vw w {s with tx:=none} [jD]):=by
 obtain ⟨j,a,i⟩:=h.ex;refine (FM sb ch _ w a).mono ?_;rintro e w' ⟨rfl,b,d,f,g⟩;exact jO h a (pD (fun k _=>d k) f (Nat.le_of_eq g.symm)) (s':={s with tx:=none}) (vx':= .pointer none) b rfl
variable {E:Nat→Prop} {c:bX}
theorem sT (c:bX):bs (cQ c)=c.host:=rfl
theorem gg.host (b:gg E w pp c):w.cell? ⟨pp,0,none⟩=some (.string (bs (cQ c)))∧(cQ c).length≤255:=by
 obtain ⟨d,f,g,h,a,_⟩:=b.set;refine ⟨(a.cell 0 (by decide)).trans rfl,?_⟩;have:=a.small.host;have e:=aG (cQ c);rw [sT] at e;omega
theorem cI.greet (h:cI w A pp pb sb ch vw [] s) (a:gg E w pp c) (j:∀k,E k→¬A k):Calls Tryz.prog 144 #[.pointer (some ⟨sb,0,none⟩)] w (cP A pp pb sb ch vw w {s with greeted:=true,tx:=none} [[50,53,48,32]++cQ c++[13,10]]):=by
 obtain ⟨m,b,l⟩:=h.ex;refine (E0 sb ch pp _ (cQ c) w b rfl a.host.1 (fun e=>j pp a.epp (by rw [e];exact h.asb)) a.host.2).mono ?_;rintro e w' ⟨rfl,d,f,g,i⟩;exact jO h b (pD (fun k _=>f k) g (Nat.le_of_eq i.symm)) (s':={s with greeted:=true,tx:=none}) (vx':= .pointer none) d rfl
theorem ly (h:ij c=true):(1≤c.most∧c.most≤10)∧(1≤c.size∧c.size≤1000)∧0≤c.room∧c.room≤1000000:=by
 unfold ij cF at h;simp only [Bool.and_eq_true,decide_eq_true_eq] at h;obtain ⟨⟨⟨⟨⟨⟨⟨⟨_,_⟩,_⟩,_⟩,a⟩,b⟩,_⟩,_⟩,d⟩:=h;exact ⟨a,b,d⟩
theorem cI.more (h:cI w A pp pb sb ch vw [] s) (a:gg E w pp c) (b:∀k,E k→¬A k):Calls Tryz.prog 145 #[.pointer (some ⟨sb,0,none⟩)] w (cP A pp pb sb ch vw w {s with greeted:=true,tx:=none} [[50,53,48,45]++cQ c++[13,10],[50,53,48,45,83,73,90,69,32]++Lib.itoa c.size++[13,10],[50,53,48,32,65,85,84,72,32,80,76,65,73,78,13,10]]):=by
 obtain ⟨q,d,j⟩:=h.ex;obtain ⟨m,n,o,p,i,_⟩:=a.set;have l:=ly a.may;refine (wE sb ch pp _ (cQ c) c.size w d rfl a.host.1 ((i.cell 5 (by decide)).trans rfl) (fun e=>b pp a.epp (by rw [e];exact h.asb)) (fun e=>b pp a.epp (by rw [e];exact h.ach)) a.host.2 a.pow (fun e=>b _ a.epow (by rw [←e];exact h.asb)) (fun e=>b _ a.epow (by rw [←e];exact h.ach)) (by omega) (by omega)).mono ?_;rintro e w' ⟨rfl,f,g⟩;exact jO h d g (s':={s with greeted:=true,tx:=none}) (vx':= .pointer none) f rfl
end
section
variable {A:Nat→Prop} {pp pb sb ch:Nat} {vw:Value} {w:World} {s:bG} {E:Nat→Prop} {c:bX}
theorem te {a:World} (h:aL ch w a):aH (fun k=>k=sb∨k=ch) w a:=(aH.same h).mono (fun _ _ e=> .inr e)
theorem oh.ptr {b:Value} {o:Option mK} (h:oh w A b o) (d:o.isSome=true):∃a,b= .pointer (some ⟨a,0,none⟩):=by
 cases o with
 | none=>cases d
 | some t=>obtain ⟨a,_,_,e,_⟩:=h;exact ⟨a,e⟩
theorem oh.nil {a:Value} {o:Option mK} (h:oh w A a o) (b:o.isSome=false):a= .pointer none:=by
 cases o with
 | none=>exact h
 | some t=>cases b
def pW (c:bX) (s:bG) (shown:List UInt8):bG×List (List UInt8):=if s.tx.isSome || s.known then (s,[ni]) else if c.users.any (iV (bs shown)) then ({s with known:=true},[Fe]) else (s,[G9])
theorem cI.know (h:cI w A pp pb sb ch vw [] s) (o:gg E w pp c) (a:List UInt8):Calls Tryz.prog 146 #[.pointer (some ⟨sb,0,none⟩),.string (bs a)] w (cP A pp pb sb ch vw w (pW c s a).1 (pW c s a).2):=by
 obtain ⟨y,d,f⟩:=h.ex;obtain ⟨t,u,v,x,q,_⟩:=o.set;unfold pW
 cases l:s.tx.isSome with
 | true=>
  obtain ⟨r,rfl⟩:=f.ptr l;refine (Fc sb ch r _ (bs a) w d rfl).mono ?_;rintro e n ⟨rfl,b,g⟩;exact jO h d (te g) (s':=s) b f
 | false=>
  have p:=f.nil l;subst p
  cases k:s.known with
  | true=>
   refine (CQ sb ch _ (bs a) w d rfl (by rw [←k];rfl)).mono ?_;rintro e n ⟨rfl,b,g⟩;exact jO h d (te g) (s':=s) b f
  | false=>
   refine (G6 sb ch pp _ c t u v x (bs a) w d q rfl rfl (by rw [←k];rfl)).mono ?_;rintro e n ⟨rfl,b,g,i,j⟩
   cases m:c.users.any (iV (bs a)) with
   | true=>
    rw [m] at b;exact jO h d (pD g i j) (s':={s with known:=true}) b f
   | false=>
    rw [m] at b;exact jO h d (pD g i j) (s':=s) b f
def lV (c:bX) (s:bG) (name:List UInt8) (size:Int):bG×List (List UInt8):=if s.tx.isSome then (s,[ni]) else if c.size < size then (s,[uw]) else ({s with tx:=some ⟨name,[],none⟩},[jD])
theorem cI.mail (h:cI w A pp pb sb ch vw [] s) (x:gg E w pp c) (d:List UInt8) (b:Int):Calls Tryz.prog 147 #[.pointer (some ⟨sb,0,none⟩),.string (bs d),.int .i64 b] w (cP A pp pb sb ch vw w (lV c s d b).1 (lV c s d b).2):=by
 obtain ⟨G,j,n⟩:=h.ex;obtain ⟨B,C,D,F,q,_⟩:=x.set;unfold lV
 cases r:s.tx.isSome with
 | true=>
  obtain ⟨z,rfl⟩:=n.ptr r;refine (yD sb ch z _ d b w j rfl).mono ?_;rintro e o ⟨rfl,l,m⟩;exact jO h j (te m) (s':=s) l n
 | false=>
  have y:=n.nil r;subst y
  by_cases f:c.size < b
  ·simp only [f,if_true];refine (yE sb ch pp _ d b c.size w j rfl rfl ((q.cell 5 (by decide)).trans rfl) f).mono ?_;rintro e o ⟨rfl,l,m⟩;exact jO h j (te m) (s':=s) l n
  ·simp only [f,if_false];refine (Ae sb ch pp _ d b c.size w j rfl rfl ((q.cell 5 (by decide)).trans rfl) f).mono ?_;rintro e o ⟨rfl,l,t,m,u,v⟩;have p:w.heap.size < o.heap.size:=ah t;refine ⟨rfl,fun k=>A k∨k=w.heap.size,⟨⟨_,l,w.heap.size,.slice none 0 0,.pointer none,rfl,.inr rfl,⟨t,rfl,.inl ⟨rfl,rfl⟩⟩,(fun g e=>by cases e),rfl⟩,.inl h.asb,.inl h.ach,fun k i=>?_⟩,fun _ a=> .inl a,fun k i=>i.imp id (fun e=>Nat.le_of_eq e.symm),(pD m u v).mono (fun k _ e=>by rcases e with e | e <;> rw [e];exact h.asb;exact h.ach)⟩
   rcases i with i | i
   ·have:=h.lt k i;omega
   ·omega
theorem cI.rcpt (h:cI w A pp pb sb ch vw [] s) (v:gg E w pp c) {t:mK} (L:s.tx=some t) (i:t.body=none) (b:List UInt8) (I:b.length≤1048576) (G:t.tos.length≤10):
  Calls Tryz.prog 148 #[.pointer (some ⟨sb,0,none⟩),.string (bs b)] w (cP A pp pb sb ch vw w {s with tx:=some {t with tos:=cY t.tos c.most (s.nets || s.known || dM c b) b}} [b9 t.tos c.most (s.nets || s.known || dM c b) b]):=by
 obtain ⟨S,B,n⟩:=h.ex;obtain ⟨N,O,P,Q,K,_⟩:=v.set;obtain ⟨m,H⟩:=v.len;rw [L] at n;obtain ⟨x,R,l,rfl,u,F,r,q⟩:=n;rw [i] at q;refine (zT sb ch pp x _ c N O P Q R l s.nets s.known t.frm b t.tos m w B K F rfl rfl rfl rfl I G H).mono ?_;rintro e y ⟨rfl,C,f,o,p,D⟩
 have M:∀g,f.ownBlock=some g→g < y.heap.size:=fun g j=>by
  obtain ⟨z,J⟩:=dm o.row j;exact ah J
 refine ⟨rfl,fun k=>A k∨f.ownBlock=some k,⟨⟨_,C,x,f,l,rfl,.inl u,o,fun g j=> .inr j,?_⟩,.inl h.asb,.inl h.ach,fun k d=>?_⟩,fun _ a=> .inl a,fun k d=>?_,p.mono (fun k _ e=>?_)⟩
 ·show rm y _ l t.body;rw [i];exact q
 ·rcases d with d | d
  ·exact Nat.lt_of_lt_of_le (h.lt k d) p.size
  ·exact M k d
 ·rcases d with d | d
  ·exact .inl d
  ·exact (D k d).imp (r k) id
 ·rcases e with e | e | e
  ·rw [e];exact h.ach
  ·rw [e];exact u
  ·exact r k e
theorem cI.data (h:cI w A pp pb sb ch vw [] s) {t:mK} (I:s.tx=some t):
  Calls Tryz.prog 149 #[.pointer (some ⟨sb,0,none⟩)] w (cP A pp pb sb ch vw w {s with tx:=some {t with body:=some ⟨[],false,false⟩}} [zl]):=by
 obtain ⟨M,l,m⟩:=h.ex;rw [I] at m;obtain ⟨j,x,J,rfl,o,d,H,K⟩:=m;refine (wz sb ch j _ _ x J w l rfl d.blk).mono ?_;rintro e y ⟨rfl,B,C,n,D,F,G⟩;have p:aH (fun k=>k=j∨k=ch) w y:=⟨G,fun k b u=>D k b (fun e=>u (.inl e)) (fun e=>u (.inr e)),F⟩;have q:w.heap.size < y.heap.size:=ah n;refine ⟨rfl,fun k=>A k∨k=w.heap.size,⟨⟨_,B,j,x,_,rfl,.inl o,⟨C,bC d.row p (fun g f e=>?_)⟩,fun g f=> .inl (H g f),w.heap.size,.slice none 0 0,rfl,.inr rfl,⟨n,World.ownsRowF_nil _ _ _ _⟩,(fun g e=>by cases e)⟩,.inl h.asb,.inl h.ach,fun k b=>?_⟩,fun _ a=> .inl a,fun k b=>b.imp id (fun e=>Nat.le_of_eq e.symm),p.mono (fun k _ e=>?_)⟩
 ·rcases e with e | e
  ·exact d.far (by rw [←e];exact f)
  ·obtain ⟨z,v⟩:=dm d.row f;obtain ⟨L,r,i⟩:=l.chan;rw [e,i] at v
   cases v
 ·rcases b with b | b
  ·have:=h.lt k b;omega
  ·omega
 ·rcases e with e | e <;> rw [e]
  ·exact o
  ·exact h.ach
end
def df (x:Nat×Bool):Value:= .agg #[.int .i64 x.1,.bool x.2]
def fo (pp pb ch:Nat) (va vu vl:Value) (frm body:List UInt8) (over:Bool) (t:aQ):Array Value:=
 #[.pointer (some ⟨pp,0,none⟩),.pointer (some ⟨pb,0,none⟩),.int .i64 ((t.i:Int)+1),.string (bs frm),va,.string (bs body),.int .i64 t.said,vu,vl,.chan (some ch),.bool over]
structure bR (w:World) (tb ch pp pb:Nat) (va vu vl:Value) (frm body:List UInt8) (cap:Nat) (over:Bool) (t:aQ):Prop where
 blk:w.heap[tb]? =some (.cells (fo pp pb ch va vu vl frm body over t) 153 (0,0))
 chan:∃s r,w.heap[ch]? =some (.chan cap (t.came.map df).toArray false s r false)
 una:bg w vu t.una.length 2 (aR t.una)
 wil:w.ownsRow 0 162 2 vl t.wil.length (aR t.wil)
 ua:∀k,vu.ownBlock=some k→va.ownBlock=some k
 al:∀k,vl.ownBlock=some k→va.ownBlock≠some k
 at_:∀k,va.ownBlock=some k→k≠tb∧k≠ch∧k < w.heap.size
def lA (tb ch:Nat) (va vl:Value) (k:Nat):Prop:=k=tb∨k=ch∨va.ownBlock=some k∨vl.ownBlock=some k
section
variable {w w':World} {tb ch pp pb:Nat} {va vu vl:Value} {frm body:List UInt8} {cap:Nat} {over:Bool} {t:aQ} {B:Nat→Prop}
theorem bR.cell (h:bR w tb ch pp pb va vu vl frm body cap over t) (j:Nat):w.cell? ⟨tb,j,none⟩=(fo pp pb ch va vu vl frm body over t)[j]? :=by rw [Lib.cell_of_heap h.blk]
theorem bR.frozen (h:bR w tb ch pp pb va vu vl frm body cap over t) (j:Nat):w.frozen? ⟨tb,j,none⟩=false:=Lib.frozen_of_heap h.blk j
theorem bR.tc (h:bR w tb ch pp pb va vu vl frm body cap over t):tb≠ch:=fun e=>by
 obtain ⟨s,r,a⟩:=h.chan;have:=h.blk;rw [e,a] at this;simp at this
theorem bR.lb (h:bR w tb ch pp pb va vu vl frm body cap over t) {k:Nat} (a:vl.ownBlock=some k):k≠tb∧k≠ch∧k < w.heap.size:=by
 have i:=(kD h.wil a).2
 rcases h.wil.2 with ⟨e,_⟩ | ⟨g,l,d,e,_,b,_⟩
 ·rw [e] at a;cases a
 ·rw [e] at a;have f:g=k:=by simpa [Value.ownBlock] using a
  subst f;refine ⟨fun c=>?_,fun c=>?_,i⟩
  ·rw [c,h.blk] at b;simp at b
  ·obtain ⟨s,r,j⟩:=h.chan;rw [c,j] at b;simp at b
theorem bR.lt (h:bR w tb ch pp pb va vu vl frm body cap over t) {k:Nat} (b:lA tb ch va vl k):k < w.heap.size:=by
 rcases b with e | e | e | e
 ·rw [e];exact ah h.blk
 ·obtain ⟨s,r,a⟩:=h.chan;rw [e];exact ah a
 ·exact (h.at_ k e).2.2
 ·exact (h.lb e).2.2
theorem bR.chg (h:bR w tb ch pp pb va vu vl frm body cap over t) (a:aH B w w') (b:∀k,lA tb ch va vl k→¬B k):bR w' tb ch pp pb va vu vl frm body cap over t:=by
 obtain ⟨s,r,c⟩:=h.chan;exact ⟨a.some_ h.blk (b _ (.inl rfl)),⟨s,r,a.some_ c (b _ (.inr (.inl rfl)))⟩,h.una.chg a (fun g e=>b g (.inr (.inr (.inl (h.ua g e))))),bC h.wil a (fun g e=>b g (.inr (.inr (.inr e)))),h.ua,h.al,fun k e=>⟨(h.at_ k e).1,(h.at_ k e).2.1,Nat.lt_of_lt_of_le (h.at_ k e).2.2 a.size⟩⟩
theorem bR.below (h:bR w tb ch pp pb va vu vl frm body cap over t) (a:Below w.heap.size w w'):bR w' tb ch pp pb va vu vl frm body cap over t:=h.chg (aH.below a:aH (fun _=>False) w w') (fun _ _ e=>e)
theorem bR.put (h:bR w tb ch pp pb va vu vl frm body cap over t) {c b:Value} {a:Bool} {t':aQ} (d:aL tb w w') (l:w'.heap[tb]? =some (.cells (fo pp pb ch va c b frm body a t') 153 (0,0))) (m:t'.came=t.came) (o:bg w c t'.una.length 2 (aR t'.una)) (n:w.ownsRow 0 162 2 b t'.wil.length (aR t'.wil)) (ua:∀k,c.ownBlock=some k→va.ownBlock=some k) (i:∀k,b.ownBlock=some k→va.ownBlock≠some k∧k≠tb):bR w' tb ch pp pb va c b frm body cap a t':=by
 obtain ⟨s,r,j⟩:=h.chan;exact ⟨l,⟨s,r,by rw [m];exact aP d j (Ne.symm h.tc)⟩,o.chg (aH.same d) (fun g e f=>(h.at_ g (ua g e)).1 f),bC n (aH.same d) (fun g e f=>(i g e).2 f),ua,fun k e=>(i k e).1,fun k e=>⟨(h.at_ k e).1,(h.at_ k e).2.1,Nat.lt_of_lt_of_le (h.at_ k e).2.2 (aH.same d).size⟩⟩
end
def fQ (tb ch pp pb:Nat) (va vl:Value) (frm body:List UInt8) (cap:Nat) (w:World) (x:aQ×List UInt8) (e:Ending) (w':World):Prop:=
 e= .returned (.string (bs x.2))∧∃vu' vl',bR w' tb ch pp pb va vu' vl' frm body cap false x.1∧aH (lA tb ch va vl) w w'∧∀k,vl'.ownBlock=some k→vl.ownBlock=some k∨w.heap.size≤k
section
variable {w w':World} {tb ch pp pb:Nat} {va vu vl:Value} {frm body:List UInt8} {cap:Nat} {t:aQ}
theorem nZ (h:bR w tb ch pp pb va vu vl frm body cap false t) (s:Nat) (l:List UInt8) (j:l.length≤100000000000000):
  Calls Tryz.prog 126 #[.pointer (some ⟨tb,0,none⟩),.int .i64 (s:Int),.string (bs l)] w (fQ tb ch pp pb va vl frm body cap w (t.say s l)):=by
 have g:w.cell? ⟨tb,6,none⟩=some (.int .i64 t.said):=h.cell 6;have i:=h.frozen 6;have f:=aG l;have a:(bs l++(⟨#[13,10]⟩:ByteArray))=bs (l++[13,10]):=(cE l [13,10]).symm;have d:=Lib.hid a;have b:=Lib.hid h;clear h a;go_enter Tryz.func126,Tryz.ntmps126;go_wp2_with fail
 go_ret;have c:aL tb w (w.setCell ⟨tb,6,none⟩ (.int .i64 (s:Int))):=(aL.refl _ _).setCell _;refine ⟨by rw [d.out];rfl,vu,vl,b.out.put (t':=(t.say s l).1) c (heap_setCell_same w tb 6 _ _ (.int .i64 (s:Int)) b.out.blk) rfl b.out.una b.out.wil b.out.ua (fun k e=>⟨b.out.al k e,(b.out.lb e).1⟩),(aH.same c).mono (fun k _ e=> .inl e),fun k e=> .inl e⟩
theorem fD (h:bR w tb ch pp pb va vu vl frm body cap false t):
  Calls Tryz.prog 127 #[.pointer (some ⟨tb,0,none⟩)] w (fQ tb ch pp pb va vl frm body cap w t.quit):=by
 have c:=Lib.hid (nZ h 6 [81,85,73,84] (by decide));clear h;go_enter Tryz.func127,Tryz.ntmps127;go_wp2_with fail
 refine c.out.mono ?_;rintro e d ⟨rfl,a⟩;have b:=Lib.hid a;clear a;go_wp2_with fail
 go_ret;exact ⟨rfl,b.out⟩
theorem pw (h:bR w tb ch pp pb va vu vl frm body cap false t) (hz:∀x∈t.una,x.2.length≤1000) (z:t.una.length≤1000) (v:t.wil.length≤1000):
  Calls Tryz.prog 128 #[.pointer (some ⟨tb,0,none⟩)] w (fQ tb ch pp pb va vl frm body cap w t.ask):=by
 obtain ⟨A,Q,o⟩:=aE h.una;obtain ⟨O,P,p⟩:=aE (aF h.wil);have C:w.cell? ⟨tb,7,none⟩=some (.slice A t.una.length Q):=by rw [←o];exact h.cell 7
 have D:w.cell? ⟨tb,8,none⟩=some (.slice O t.wil.length P):=by rw [←p];exact h.cell 8
 by_cases c:t.una=[]
 ·have R:t.una.length=0:=by rw [c];rfl
  rw [R] at C
  by_cases i:t.wil=[]
  ·have S:t.wil.length=0:=by rw [i];rfl
   rw [S] at D;have l:t.ask=t.quit:=by unfold aQ.ask;rw [c];simp [i]
   rw [l];have k:=Lib.hid (fD h);clear h o p c i;go_enter Tryz.func128,Tryz.ntmps128;go_wp2_with fail
   refine k.out.mono ?_;rintro e M ⟨rfl,f⟩;have j:=Lib.hid f;clear f;go_wp2_with fail
   go_ret;exact ⟨rfl,j.out⟩
  ·have V:(0:Int) < (t.wil.length:Int):=by have:=List.length_pos_iff.2 i;omega
   have l:t.ask=t.say 4 [68,65,84,65]:=by unfold aQ.ask;rw [c];simp [i]
   rw [l];have k:=Lib.hid (nZ h 4 [68,65,84,65] (by decide));obtain ⟨K,n⟩:∃K,t.wil.length=K:=⟨_,rfl⟩;rw [n] at D V v;clear h o p c i n;go_enter Tryz.func128,Tryz.ntmps128;go_wp2_with fail
   refine k.out.mono ?_;rintro e M ⟨rfl,f⟩;have j:=Lib.hid f;clear f;go_wp2_with fail
   go_ret;exact ⟨rfl,j.out⟩
 ·obtain ⟨r,u,s⟩:∃r u,t.una=r::u:=by
   cases e:t.una with
   | nil=>exact absurd e c
   | cons r u=>exact ⟨r,u,rfl⟩
  have U:(0:Int) < (t.una.length:Int):=by have:=List.length_pos_iff.2 c;omega
  have y:=h.una;rw [o] at y
  obtain ⟨b,a,l,W,X⟩:∃b a,A=some ⟨b,a,none⟩∧w.cell? ⟨b,a,none⟩=some (.int .i64 (r.1:Int))∧w.cell? ⟨b,a+1,none⟩=some (.string (bs r.2)):=by
   obtain ⟨a2,c2,q,F⟩:=y.shape;injection q with q _ _;have G:0 < t.una.length:=List.length_pos_iff.2 c;obtain ⟨b,a,E,_,H⟩:=F 0 0 G (by decide);obtain ⟨b',L,g,_,I⟩:=F 0 1 G (by decide);rw [E] at g;injection g with g;injection g with g e5;subst g e5;rw [s] at H I;exact ⟨b,a,q.trans E,by simpa [aR] using H,by simpa [aR] using I⟩
  subst l;have Y:=hz r (by rw [s];simp);have T:t.ask=t.say 3 ([82,67,80,84,32,84,79,58,60]++r.2++[62]):=by unfold aQ.ask;rw [s]
  rw [T];have k:=Lib.hid (nZ h 3 ([82,67,80,84,32,84,79,58,60]++r.2++[62]) (by simp only [List.length_append,List.length_cons,List.length_nil];omega));have Z:=aG r.2
  have d:((⟨#[82,67,80,84,32,84,79,58,60]⟩:ByteArray)++bs r.2)++(⟨#[62]⟩:ByteArray)=bs ([82,67,80,84,32,84,79,58,60]++r.2++[62]):=by
   rw [←cE ([82,67,80,84,32,84,79,58,60]++r.2) [62],←cE [82,67,80,84,32,84,79,58,60] r.2];rfl
  have N:=Lib.hid d;obtain ⟨J,m⟩:∃J,t.una.length=J:=⟨_,rfl⟩;rw [m] at C U z;clear h o p c d m y;go_enter Tryz.func128,Tryz.ntmps128;go_wp2_with fail
  rw [N.out];refine k.out.mono ?_;rintro e M ⟨rfl,f⟩;have j:=Lib.hid f;clear f;go_wp2_with fail
  go_ret;exact ⟨rfl,j.out⟩
end
section
variable {w w':World} {tb ch pp pb:Nat} {va vu vl:Value} {frm body:List UInt8} {cap:Nat} {t:aQ}
theorem JB (h:bg w vu t.una.length 2 (aR t.una)) {r:Nat×List UInt8} {u:List (Nat×List UInt8)} (n:t.una=r::u):∃b a e c,vu= .slice (some ⟨b,a,none⟩) (u.length+1) (c+1)∧u.length≤c∧((c=0∧e=a)∨∃l,c=l+1∧e=a+2)∧bg w (.slice (some ⟨b,a,none⟩) 1 (c+1)) 1 2 (aR [r])∧bg w (.slice (some ⟨b,e,none⟩) u.length c) u.length 2 (aR u):=by
 rw [n] at h;obtain ⟨q,⟨o,_⟩ | ⟨b,a,c,f,d,g⟩⟩:=h
 ·simp at o
 ·obtain ⟨c,rfl⟩:∃m,c=m+1:=⟨c - 1,by simp at d;omega⟩
  have d:u.length≤c:=by simpa using d
  have k:bg w (.slice (some ⟨b,a,none⟩) 1 (c+1)) 1 2 (aR [r]):=⟨rfl,.inr ⟨b,a,c+1,rfl,by omega,fun j p=>by
   rw [g j (by simp only [List.length_cons];omega)];obtain rfl | rfl:j=0∨j=1:=by omega
   ·rfl
   ·rfl⟩⟩
  cases c with
  | zero=>
   have i:u=[]:=List.eq_nil_of_length_eq_zero (by omega);exact ⟨b,a,a,0,f,d,.inl ⟨rfl,rfl⟩,k,⟨by rw [kc],.inl ⟨by rw [i];rfl,_,_,by rw [i];rfl⟩⟩⟩
  | succ c=>
   refine ⟨b,a,a+2,c+1,f,d,.inr ⟨c,rfl,rfl⟩,k,⟨by rw [kc],.inr ⟨b,a+2,c+1,rfl,d,fun j p=>?_⟩⟩⟩
   rw [show a+2+j=a+(2+j) by omega,g (2+j) (by simp only [List.length_cons];omega)]
   show ([Value.int .i64 (r.1:Int),.string (bs r.2)]++aR u)[2+j]? =_;rw [List.getElem?_append_right (by simp)];simp
theorem bR.cut (h:bR w tb ch pp pb va vu vl frm body cap false t) {r:Nat×List UInt8} {u:List (Nat×List UInt8)} {b d a c:Nat} (i:t.una=r::u) (j:vu= .slice (some ⟨b,d,none⟩) (u.length+1) (c+1)) (l:bg w (.slice (some ⟨b,a,none⟩) u.length c) u.length 2 (aR u)):
  bR (w.setCell ⟨tb,7,none⟩ (.slice (some ⟨b,a,none⟩) u.length c)) tb ch pp pb va (.slice (some ⟨b,a,none⟩) u.length c) vl frm body cap false {t with una:=t.una.drop 1}∧aH (lA tb ch va vl) w (w.setCell ⟨tb,7,none⟩ (.slice (some ⟨b,a,none⟩) u.length c)):=by
 have f:aL tb w (w.setCell ⟨tb,7,none⟩ (.slice (some ⟨b,a,none⟩) u.length c)):=(aL.refl _ _).setCell _;have g:t.una.drop 1=u:=by rw [i];rfl
 refine ⟨h.put (t':={t with una:=t.una.drop 1}) f (heap_setCell_same w tb 7 _ _ _ h.blk) rfl (by show bg w _ (t.una.drop 1).length 2 (aR (t.una.drop 1));rw [g];exact l) h.wil (fun k e=>h.ua k (by rw [j];exact e)) (fun k e=>⟨h.al k e,(h.lb e).1⟩),(aH.same f).mono (fun k _ e=> .inl e)⟩
theorem bR.more (h:bR w tb ch pp pb va vu vl frm body cap false t) {r:Nat×List UInt8} {b d c:Nat} (I:bg w (.slice (some ⟨b,d,none⟩) 1 c) 1 2 (aR [r])) (W:t.wil.length≤1000):
  ∃g m f,(Builtin.append_ #[102,102] 102 #[vl,.slice (some ⟨b,d,none⟩) 1 c]).run Tryz.prog w= .ok (.slice (some ⟨g,0,none⟩) (t.wil.length+1) m) f∧f.cell? ⟨tb,8,none⟩=some vl∧f.frozen? ⟨tb,8,none⟩=false∧
   bR (f.setCell ⟨tb,8,none⟩ (.slice (some ⟨g,0,none⟩) (t.wil.length+1) m)) tb ch pp pb va vu (.slice (some ⟨g,0,none⟩) (t.wil.length+1) m) frm body cap false {t with wil:=t.wil++[r]}∧aH (lA tb ch va vl) w (f.setCell ⟨tb,8,none⟩ (.slice (some ⟨g,0,none⟩) (t.wil.length+1) m))∧(vl.ownBlock=some g∨w.heap.size≤g):=by
 obtain ⟨i,K,A,B,C⟩:=info_parts lR;obtain ⟨L,⟨U,_⟩ | ⟨S,G,T,a,_,J⟩⟩:=I
 ·omega
 injection a with a _ _;injection a with a;injection a with l e3;subst l e3
 obtain ⟨g,m,f,M,N,F⟩:=gC (P:=Tryz.prog) w 102 102 0 162 i _ 2 24 Tryz.underlying102 K A B C rfl (by decide) vl t.wil.length (aR t.wil) h.wil ⟨b,d,none⟩ 1 c (aR [r]) rfl (fun j x o=>by
  have V:j < 2:=by
   rcases Nat.lt_or_ge j 2 with v | v
   ·exact v
   ·rw [List.getElem?_eq_none (by simpa [aR] using v)] at o;cases o
  have u:(⟨b,d,none⟩:Addr).add j=⟨b,d+j,none⟩:=by unfold Addr.add;split <;> simp_all
  rw [u,J j (by omega),o]) (by intro x o;simp [aR] at o;rcases o with rfl | rfl <;> rfl) (by decide) (by unfold maxLen;omega) (by omega) (Nat.zero_le _)
 have p:aH (fun k=>vl.ownBlock=some k) w f:=by
  rcases F with ⟨a,y⟩ | ⟨_,y⟩
  ·exact (aH.grown y).mono fun k _ e=>a.trans e
  ·exact (aH.grown y).mono fun k _ e=>by cases e
 have D:vl.ownBlock=some g∨w.heap.size≤g:=by
  rcases F with ⟨a,_⟩ | ⟨a,_⟩
  ·exact .inl a
  ·exact .inr (by rw [a];exact Nat.le_refl _)
 have O:¬vl.ownBlock=some tb:=fun e=>(h.lb e).1 rfl;have Q:¬vl.ownBlock=some ch:=fun e=>(h.lb e).2.1 rfl;have n:=p.some_ h.blk O;have q:aL tb f (f.setCell ⟨tb,8,none⟩ (.slice (some ⟨g,0,none⟩) (t.wil.length+1) m)):=(aL.refl _ _).setCell _
 have E:va.ownBlock≠some g∧g≠tb:=by
  rcases D with e | e
  ·exact ⟨h.al g e,(h.lb e).1⟩
  ·exact ⟨fun l=>by have:=(h.at_ g l).2.2;omega,fun l=>by have:=ah h.blk;omega⟩
 have H:aR (t.wil++[r])=aR t.wil++aR [r]:=by unfold aR;rw [List.flatMap_append]
 obtain ⟨s,R,z⟩:=h.chan;refine ⟨g,m,f,M,by rw [Lib.cell_of_heap n];rfl,Lib.frozen_of_heap n 8,⟨heap_setCell_same f tb 8 _ _ _ n,⟨s,R,aP q (p.some_ z Q) (Ne.symm h.tc)⟩,?_,?_,h.ua,fun k e=>?_,fun k e=>⟨(h.at_ k e).1,(h.at_ k e).2.1,Nat.lt_of_lt_of_le (h.at_ k e).2.2 (Nat.le_trans p.size (aH.same q).size)⟩⟩,?_,D⟩
 ·exact (h.una.chg p (fun g e l=>h.al g l (h.ua g e))).chg (aH.same q) (fun g e l=>(h.at_ g (h.ua g e)).1 l)
 ·show World.ownsRow _ 0 162 2 _ (t.wil++[r]).length (aR (t.wil++[r]));rw [H,List.length_append];refine bC N (aH.same q) (fun k e l=>E.2 ?_);have e:g=k:=by simpa [Value.ownBlock] using e
  exact e.trans l
 ·have e:g=k:=by simpa [Value.ownBlock] using e
  rw [←e];exact E.1
 ·exact (p.mono (fun k _ e=> .inr (.inr (.inr e)))).trans (aH.same q) (fun k _ e=> .inl e)
end
end Go.Proofs.YtofpegbpgkkgkaaGreatDoor
