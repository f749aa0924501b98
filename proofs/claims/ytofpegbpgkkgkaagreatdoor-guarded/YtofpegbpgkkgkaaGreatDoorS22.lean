import Derived.Test.YtofpegbpgkkgkaaGreatDoorS20
import Derived.Test.YtofpegbpgkkgkaaGreatDoorS13
import Derived.Test.YtofpegbpgkkgkaaGreatDoorS18
namespace Go.Proofs.YtofpegbpgkkgkaaGreatDoor
set_option maxHeartbeats 8000000
set_option maxRecDepth 1000000
open Go.RowKit
def wD (x:ByteArray×ByteArray):ByteArray:=(⟨#[0]⟩++x.1++⟨#[0]⟩)++x.2
def iw (shown:ByteArray) (x:ByteArray×ByteArray):Bool:=(shown.toList == (wD x).toList) || (shown.toList == (x.1++wD x).toList)
theorem zo (c:bT) (Q R S T:Value) (a:ByteArray) (w:World) (h:jD w c Q R S T) (hn:c.users.length≤5) (N:∀x∈c.users,x.1.size≤255∧x.2.size≤255):
  Calls Tryz.prog 200 #[.agg #[.string c.host,Q,R,S,.int .i64 c.most,.int .i64 c.size,T,.int .i64 c.life,.int .i64 c.room],.string a] w fun e I=>e= .returned (.bool (c.users.any (iw a)))∧Below w.heap.size w I:=by
 obtain ⟨V,Z,eD⟩:=aE h.1;obtain ⟨W,cN,eN⟩:=aE h.2.1;obtain ⟨Y,cW,eW⟩:=aE h.2.2.2;obtain ⟨X,cU,eU,M⟩:=h.2.2.1.shape;subst eD eN eU eW;obtain ⟨C,l⟩:∃C:World,w.alloc (.cells #[.string c.host,.slice V c.doms.length Z,.slice W c.nets.length cN,.slice X c.users.length cU,.int .i64 c.most,.int .i64 c.size,.slice Y c.waits.length cW,.int .i64 c.life,.int .i64 c.room] 30)=C:=⟨_,rfl⟩;have J:Below w.heap.size w C:=by rw [←l];exact (Below.refl _ _).alloc (Nat.le_refl _) _
 have K:=Lib.hid M;have U:=Lib.hid N;have u:=Lib.hid J;have B:=Lib.hid l;clear h M N J l;go_enter Tryz.func200,Tryz.ntmps200;go_wp2_with fail
 rw [B.out];go_loopw [6,7,11] (fun _ _ i I=>∃k:Nat,k≤c.users.length∧i= .int .i64 k∧Hid ((c.users.take k).any (iw a)=false)∧Hid (Below w.heap.size w I)) (fun _ _ i _=>c.users.length - (intOf i).toNat)
 case atStart=>exact ⟨0,Nat.zero_le _,rfl,Lib.hid rfl,u⟩
 case round=>
  obtain ⟨k,hk,rfl,v,n⟩:=hrel
  by_cases g:k < c.users.length
  ·have O:(k:Int) < (c.users.length:Int):=by omega
   obtain ⟨b,q,rfl,o,f⟩:=K.out k 0 g (by omega);obtain ⟨b',P,D,_,d⟩:=K.out k 1 g (by omega);injection D with D;injection D with e1 e2 _;subst e1 e2;rw [Nat.add_zero,rM c.users k g] at f;rw [pE c.users k g] at d;have p:=U.out c.users[k] (List.getElem_mem g);have A:Hid ((c.users.take (k+1)).any (iw a)=iw a c.users[k]):=Lib.hid (by rw [List.take_succ_eq_append_getElem g,List.any_append,v.out];simp);have r:Hid (iw a c.users[k]=true→c.users.any (iw a)=true):=Lib.hid (fun e=>List.any_eq_true.2 ⟨_,List.getElem_mem g,e⟩);obtain ⟨x,L⟩:∃x,c.users[k]=x:=⟨_,rfl⟩;rw [L] at f d p A r;obtain ⟨j,m⟩:=x;simp only at f d p;have d0:wr.cell? ⟨b,q+k * 2,none⟩=some (.string j):=(n.out.cell (by exact o)).trans f;have d1:wr.cell? ⟨b,q+k * 2+1,none⟩=some (.string m):=(n.out.cell (by exact o)).trans d;have E:iw a (j,m)=((a.toList == ((⟨#[0]⟩++j++⟨#[0]⟩)++m).toList) || (a.toList == (j++((⟨#[0]⟩++j++⟨#[0]⟩)++m)).toList)):=rfl;obtain ⟨t1,G⟩:∃t,(a.toList == ((⟨#[0]⟩++j++⟨#[0]⟩)++m).toList)=t:=⟨_,rfl⟩;obtain ⟨t2,H⟩:∃t,(a.toList == (j++((⟨#[0]⟩++j++⟨#[0]⟩)++m)).toList)=t:=⟨_,rfl⟩;rw [G,H] at E;rw [E] at A r;clear L f d E;have s:=Lib.hid (n.out.alloc n.out.size (.cells #[.string j,.string m] 79))
   cases t1 with
   | true=>
    have z:=Lib.hid (r.out (by simp));go_wp2_with fail
    go_ret;exact ⟨by rw [z.out];rfl,s.out⟩
   | false=>
    cases t2 with
    | true=>
     have z:=Lib.hid (r.out (by simp));go_wp2_with fail
     go_ret;exact ⟨by rw [z.out];rfl,s.out⟩
    | false=>
     have y:Hid ((c.users.take (k+1)).any (iw a)=false):=Lib.hid (A.out.trans (by simp));go_wp2_with fail
     exact ⟨⟨k+1,by omega,by go_num,y,s⟩,by simp [intOf];omega⟩
  ·have F:k=c.users.length:=by omega
   subst F;rw [List.take_length] at v;go_wp2_with fail
   go_ret;exact ⟨by rw [v.out];rfl,n.out⟩
structure jW (w:World) (pp:Nat) (c:bT) (vD vN vU vW:Value):Prop where
 blk:∃A:Array Value,w.heap[pp]? =some (.cells A 88 (0,0))∧A.toList.take 9=[.string c.host,vD,vN,vU,.int .i64 c.most,.int .i64 c.size,vW,.int .i64 c.life,.int .i64 c.room]
 rows:jD w c vD vN vU vW
 may:iL c=true
theorem jW.small {w:World} {a:Nat} {c:bT} {b d e f:Value} (h:jW w a c b d e f):EL c:=jQ h.may
theorem jW.cell {w:World} {a:Nat} {c:bT} {b d e f:Value} (h:jW w a c b d e f) (j:Nat) (i:j < 9):w.cell? ⟨a,j,none⟩=[.string c.host,b,d,e,.int .i64 c.most,.int .i64 c.size,f,.int .i64 c.life,.int .i64 c.room][j]? :=by
 obtain ⟨A,g,k⟩:=h.blk;rw [Lib.cell_of_heap g,←Array.getElem?_toList,←List.getElem?_take_of_lt i,k]
theorem DM (sb b j:Nat) (C:Array Value) (a:ByteArray) (w:World) (h:bP w sb b C []) (i:C[8]? =some (.pointer (some ⟨j,0,none⟩))):
  Calls Tryz.prog 146 #[.pointer (some ⟨sb,0,none⟩),.string a] w fun e d=>e= .returned (.tuple #[])∧bP d sb b C [[53,48,51,32,102,105,114,115,116,13,10]]∧aH b w d:=by
 have f:=Lib.hid (h.tell (by simp) [53,48,51,32,102,105,114,115,116] (by decide));have k:=(h.cell 8).trans i;clear h;go_enter Tryz.func146,Tryz.ntmps146;go_wp2_with fail
 refine f.out.mono ?_;rintro e l ⟨rfl,g,c⟩;go_wp2_with fail
 refine bodyPost_end (results_none rfl _ _ _) rfl ?_;exact ⟨rfl,g,c⟩
theorem Bs (sb b:Nat) (C:Array Value) (a:ByteArray) (w:World) (h:bP w sb b C []) (j:C[8]? =some (.pointer none)) (i:C[6]? =some (.bool true)):
  Calls Tryz.prog 146 #[.pointer (some ⟨sb,0,none⟩),.string a] w fun e d=>e= .returned (.tuple #[])∧bP d sb b C [[53,48,51,32,102,105,114,115,116,13,10]]∧aH b w d:=by
 have f:=Lib.hid (h.tell (by simp) [53,48,51,32,102,105,114,115,116] (by decide));have l:=(h.cell 8).trans j;have k:=(h.cell 6).trans i;clear h;go_enter Tryz.func146,Tryz.ntmps146;go_wp2_with fail
 refine f.out.mono ?_;rintro e m ⟨rfl,g,c⟩;go_wp2_with fail
 refine bodyPost_end (results_none rfl _ _ _) rfl ?_;exact ⟨rfl,g,c⟩
theorem FA (sb s z:Nat) (C:Array Value) (c:bT) (I J K L:Value) (f:ByteArray) (w:World) (h:bP w sb s C []) (i:jW w z c I J K L) (G:C[0]? =some (.pointer (some ⟨z,0,none⟩))) (H:C[8]? =some (.pointer none)) (x:C[6]? =some (.bool false)):
  Calls Tryz.prog 146 #[.pointer (some ⟨sb,0,none⟩),.string f] w fun e p=>e= .returned (.tuple #[])∧bP p sb s (if c.users.any (iw f) then C.setIfInBounds 6 (.bool true) else C) [if c.users.any (iw f) then [50,51,53,32,111,107,13,10] else [53,51,53,32,110,111,13,10]]∧(∀k,k < w.heap.size→k≠sb→k≠s→p.heap[k]? =w.heap[k]?)∧dI w p∧w.heap.size≤p.heap.size:=by
 have c8:=(h.cell 8).trans H;have c6:=(h.cell 6).trans x;have c0:=(h.cell 0).trans G;obtain ⟨W,cD,B⟩:=aE i.rows.1;obtain ⟨X,cN,D⟩:=aE i.rows.2.1;obtain ⟨Y,cU,E⟩:=aE i.rows.2.2.1;obtain ⟨Z,cW,F⟩:=aE i.rows.2.2.2;subst B D E F;have N:=i.cell 0 (by decide);have O:=i.cell 1 (by decide);have P:=i.cell 2 (by decide);have Q:=i.cell 3 (by decide);have R:=i.cell 4 (by decide);have S:=i.cell 5 (by decide);have T:=i.cell 6 (by decide);have U:=i.cell 7 (by decide);have V:=i.cell 8 (by decide);simp only [List.getElem?_cons_zero,List.getElem?_cons_succ] at N O P Q R S T U V;have o:=Lib.hid (zo c _ _ _ _ f w i.rows i.small.users i.small.userz);have A:=Lib.hid h;obtain ⟨t,y⟩:∃t,c.users.any (iw f)=t:=⟨_,rfl⟩;rw [y] at o ⊢;clear h i y;go_enter Tryz.func146,Tryz.ntmps146;go_wp2_with fail
 refine o.out.mono ?_;rintro e q ⟨rfl,l⟩;have n:=A.out.below l;have g:=Lib.hid l
 cases t with
 | true=>
  have d6:=(n.cell 6).trans x;have f6:=n.frozen 6;have v:aH sb q (q.setCell ⟨sb,6,none⟩ (.bool true)):=(aH.refl _ _).setCell _;have r:=Lib.hid ((n.set 6 (by decide) (.bool true)).tell (by simp) [50,51,53,32,111,107] (by decide));have m:=Lib.hid v;clear n v l o;go_wp2_with fail
  refine r.out.mono ?_;rintro e M ⟨rfl,u,j⟩;go_wp2_with fail
  refine bodyPost_end (results_none rfl _ _ _) rfl ?_;refine ⟨rfl,u,fun k a b d=>(j.2 k d).trans ((m.out.2 k b).trans (g.out.block k a)),((show dI w q from ⟨g.out.1,g.out.2,g.out.3⟩).trans m.out.3).trans j.3,?_⟩;rw [j.1,m.out.1];exact g.out.size
 | false=>
  have r:=Lib.hid (n.tell (by simp) [53,51,53,32,110,111] (by decide));clear n l o;go_wp2_with fail
  refine r.out.mono ?_;rintro e M ⟨rfl,u,j⟩;go_wp2_with fail
  refine bodyPost_end (results_none rfl _ _ _) rfl ?_;refine ⟨rfl,u,fun k a _ d=>(j.2 k d).trans (g.out.block k a),(show dI w q from ⟨g.out.1,g.out.2,g.out.3⟩).trans j.3,?_⟩;rw [j.1];exact g.out.size
theorem oC {P:Program} {t e:TypeId} {i:TypeInfo} {z:Value} {a:Nat} (F:P.underlying t=some (.slice e)) (E:P.info? e=some i) (H:i.zero=some z) (f:i.size=1) (r:i.bytes=a) (s:z.cells.size=1)
  (w W:World) (v x:Value) (n:Nat) (o:List Value) (l:w.ownsRow 0 e 1 v n o) (G:x.oneCell'=true) (q:Below w.heap.size w W) (D:W.heap[w.heap.size]? =some (.cells #[x] e (0,0))) (p:n+1≤maxLen) (c:(n+1) * a≤140737488355328):
  ∃g b m,(Builtin.append_ #[t,t] t #[v,.slice (some ⟨w.heap.size,0,none⟩) 1 1]).run P W= .ok (.slice (some ⟨g,0,none⟩) (n+1) b) m∧m.ownsRow 0 e 1 (.slice (some ⟨g,0,none⟩) (n+1) b) (n+1) (o++[x])∧aF (fun k=>v.ownBlock=some k) w m∧(v.ownBlock=some g∨w.heap.size≤g):=by
 have d:W.ownsRow 0 e 1 v n o:=ax l fun g A e _=>ae q e;obtain ⟨g,b,m,B,C,h⟩:=gj (P:=P) W t t 0 e i z 1 a F E H f r s (by decide) v n o d ⟨w.heap.size,0,none⟩ 1 1 [x] rfl (World.news_of_block (cs:=#[x]) (t:=e) (fr:=(0,0)) D) (by intro u y;simp at y;rw [y];exact G) (by decide) p c (Nat.zero_le _);refine ⟨g,b,m,B,C,?_,?_⟩
 ·refine (aF.below q:aF (fun k=>v.ownBlock=some k) w W).trans (A1:=fun k=>v.ownBlock=some k) ?_ (fun k _ e=>e)
  rcases h with ⟨j,h⟩ | ⟨_,h⟩
  ·exact (aF.grown h).mono fun k _ e=>j.trans e
  ·exact (aF.grown h).mono fun k _ e=>by cases e
 ·rcases h with ⟨j,_⟩ | ⟨j,_⟩
  ·exact .inl j
  ·exact .inr (by rw [j];exact q.size)
structure qP (w:World) (tb:Nat) (vt vb:Value) (frm:List UInt8) (tos:List (List UInt8)):Prop where
 blk:w.heap[tb]? =some (.cells #[.string (bs frm),vt,vb] 216 (0,0))
 row:w.ownsRow 0 9 1 vt tos.length (az tos)
theorem qP.cell {w:World} {c:Nat} {e d:Value} {a:List UInt8} {b:List (List UInt8)} (h:qP w c e d a b) (j:Nat):w.cell? ⟨c,j,none⟩=(#[Value.string (bs a),e,d]:Array Value)[j]? :=by rw [Lib.cell_of_heap h.blk]
theorem cX {w:World} {c j n g:Nat} {e:TypeId} {v:Value} {k:List Value} (h:w.ownsRow c e j v n k) (b:v.ownBlock=some g):∃a,w.heap[g]? =some (.cells a e (0,0)):=by
 rcases h.2 with ⟨d,_⟩ | ⟨l,f,a,d,_,i,_⟩
 ·rw [d] at b;cases b
 ·rw [d] at b;injection b with b;subst b;exact ⟨a,i⟩
theorem br {A:Nat→Prop} {w i:World} {a f n:Nat} {e:TypeId} {v:Value} {j:List Value} (h:w.ownsRow a e f v n j) (m:aF A w i) (o:∀g,v.ownBlock=some g→¬A g):i.ownsRow a e f v n j:=by
 refine ⟨h.1,?_⟩
 rcases h.2 with h | ⟨g,b,c,d,k,l,r⟩
 ·exact .inl h
 ·exact .inr ⟨g,b,c,d,k,m.some_ l (o g (by rw [d];rfl)),r⟩
theorem qP.far {w:World} {d:Nat} {f i:Value} {a:List UInt8} {b:List (List UInt8)} (h:qP w d f i a b):f.ownBlock≠some d:=fun e=>by
 obtain ⟨g,c⟩:=cX h.row e;rw [h.blk] at c;simp at c
theorem qP.chg {A:Nat→Prop} {w i:World} {c:Nat} {d f:Value} {a:List UInt8} {b:List (List UInt8)} (h:qP w c d f a b) (e:aF A w i) (j:¬A c) (k:∀g,d.ownBlock=some g→¬A g):qP i c d f a b:=⟨e.some_ h.blk j,br h.row e k⟩
theorem jW.below {w i:World} {b:Nat} {c:bT} {d e f g:Value} (h:jW w b c d e f g) (a:Below w.heap.size w i):jW i b c d e f g:=by
 obtain ⟨A,j,k⟩:=h.blk;exact ⟨⟨A,ae a j,k⟩,h.rows.below a,h.may⟩
theorem bP.chg {A:Nat→Prop} {w d:World} {sb a:Nat} {C:Array Value} {c:List (List UInt8)} (h:bP w sb a C c) (b:aF A w d) (e:¬A sb) (f:¬A a):bP d sb a C c:=by
 obtain ⟨s,r,g⟩:=h.chan;exact ⟨b.some_ h.blk e,h.size,h.told,s,r,b.some_ g f⟩
theorem uL (sb l j:Nat) (C:Array Value) (c:bT) (v x y z:Value) (f b:Bool) (d:List UInt8) (m:Int) (w:World) (h:bP w sb l C []) (a:jW w j c v x y z) (r:C[0]? =some (.pointer (some ⟨j,0,none⟩))) (s:C[4]? =some (.bool f)) (t:C[6]? =some (.bool b)) (u:d.length≤1048576) (i:w.cell? ⟨0,0,none⟩=some (.int .i64 m)):
  Calls Tryz.prog 202 #[.pointer (some ⟨sb,0,none⟩),.string (bs d)] w fun e A=>e= .returned (.bool (f || b || dY c d))∧Below w.heap.size w A:=by
 have P:=(h.cell 0).trans r;have Q:=(h.cell 4).trans s;have R:=(h.cell 6).trans t;obtain ⟨L,S,n⟩:=aE a.rows.1;obtain ⟨M,T,o⟩:=aE a.rows.2.1;obtain ⟨N,U,p⟩:=aE a.rows.2.2.1;obtain ⟨O,V,q⟩:=aE a.rows.2.2.2;subst n o p q;have B:=a.cell 0 (by decide);have D:=a.cell 1 (by decide);have E:=a.cell 2 (by decide);have F:=a.cell 3 (by decide);have G:=a.cell 4 (by decide);have H:=a.cell 5 (by decide);have I:=a.cell 6 (by decide);have J:=a.cell 7 (by decide);have K:=a.cell 8 (by decide);simp only [List.getElem?_cons_zero,List.getElem?_cons_succ] at B D E F G H I J K;have k:=Lib.hid (qV c _ _ _ _ d m w a.rows a.may u i);clear h a i
 cases f with
 | true=>
  go_enter Tryz.func202,Tryz.ntmps202;go_wp2_with fail
  go_ret;exact ⟨rfl,Below.refl _ _⟩
 | false=>
  cases b with
  | true=>
   go_enter Tryz.func202,Tryz.ntmps202;go_wp2_with fail
   go_ret;exact ⟨rfl,Below.refl _ _⟩
  | false=>
   go_enter Tryz.func202,Tryz.ntmps202;go_wp2_with (first | (go_at_call 238;refine k.out.mono ?_;rintro e W ⟨rfl,g⟩) | fail)
   go_ret;exact ⟨rfl,g⟩
def dj (tos:List (List UInt8)) (most:Int) (may:Bool) (name:List UInt8):List (List UInt8):=
 if tos.contains name then tos else if (tos.length:Int)=most then tos else if may then tos++[name] else tos
def cz (tos:List (List UInt8)) (most:Int) (may:Bool) (name:List UInt8):List UInt8:=
 if tos.contains name then [50,53,48,32,111,107,13,10] else if (tos.length:Int)=most then [52,53,50,32,109,97,110,121,13,10] else if may then [50,53,48,32,111,107,13,10] else [53,53,48,32,110,111,13,10]
theorem yu (sb H pp q:Nat) (C:Array Value) (c:bT) (vD vN vU vW vt vb:Value) (j f:Bool) (S a:List UInt8) (d:List (List UInt8)) (m:Int) (w:World) (h:bP w sb H C []) (hc:jW w pp c vD vN vU vW) (N:qP w q vt vb S d) (h0:C[0]? =some (.pointer (some ⟨pp,0,none⟩))) (h4:C[4]? =some (.bool j)) (h6:C[6]? =some (.bool f)) (h8:C[8]? =some (.pointer (some ⟨q,0,none⟩))) (hn:a.length≤1048576) (hl:d.length≤10) (hm:w.cell? ⟨0,0,none⟩=some (.int .i64 m)):
  Calls Tryz.prog 148 #[.pointer (some ⟨sb,0,none⟩),.string (bs a)] w fun e w'=>e= .returned (.tuple #[])∧bP w' sb H C [cz d c.most (j || f || dY c a) a]∧∃a7,qP w' q a7 vb S (dj d c.most (j || f || dY c a) a)∧aF (fun k=>k=H∨k=q∨vt.ownBlock=some k) w w'∧∀k,a7.ownBlock=some k→vt.ownBlock=some k∨w.heap.size≤k:=by
 have c0:=(h.cell 0).trans h0;have c8:=(h.cell 8).trans h8;have t1:w.cell? ⟨q,1,none⟩=some vt:=N.cell 1;have y4:=hc.cell 4 (by decide);simp only [List.getElem?_cons_zero,List.getElem?_cons_succ] at y4;have A:=aC N.row;obtain ⟨av,cv,ev⟩:=aE A;subst ev;have O:Hid (∀W:World,Below w.heap.size w W→Calls Tryz.prog 202 #[.pointer (some ⟨sb,0,none⟩),.string (bs a)] W fun e w'=>e= .returned (.bool (j || f || dY c a))∧Below W.heap.size W w'):=Lib.hid (fun W hb=>uL sb H pp C c vD vN vU vW j f a m W (h.below hb) (hc.below hb) h0 h4 h6 hn ((hb.cell (aA hm)).trans hm));have v:=Lib.hid (lG d a _ w A (by omega));have D:H≠q:=fun e=>by obtain ⟨s,r,L⟩:=h.chan;rw [e,N.blk] at L;simp at L
 have J:∀g,(Value.slice av d.length cv).ownBlock=some g→H≠g:=fun g U e=>by
  obtain ⟨s,r,L⟩:=h.chan;obtain ⟨R,h1⟩:=cX N.row U;rw [e,h1] at L;simp at L
 have b7:=Lib.hid (h.tell (by simp) [50,53,48,32,111,107] (by decide));have HH:=Lib.hid h;have HT:=Lib.hid N;have G:=Lib.hid J
 cases l:d.contains a with
 | true=>
  rw [l] at v;have X:Hid (cz d c.most (j || f || dY c a) a=[50,53,48,32,111,107,13,10]):=Lib.hid (by unfold cz;rw [l];rfl);have Y:Hid (dj d c.most (j || f || dY c a) a=d):=Lib.hid (by unfold dj;rw [l];rfl);rw [X.out,Y.out];clear h hc N A hm l J;go_enter Tryz.func148,Tryz.ntmps148;go_wp2_with fail
  refine v.out.mono ?_;rintro e K ⟨rfl,rfl⟩;go_wp2_with fail
  refine b7.out.mono ?_;rintro e E ⟨rfl,F,z⟩;go_wp2_with fail
  refine bodyPost_end (results_none rfl _ _ _) rfl ?_;exact ⟨rfl,F,_,HT.out.chg (aF.same z) (fun e=>D e.symm) (fun g U e=>G.out g U e.symm),(aF.same z).mono (fun _ _ e=> .inl e),fun k e=> .inl e⟩
 | false=>
  rw [l] at v
  by_cases p:(d.length:Int)=c.most
  ·have X:Hid (cz d c.most (j || f || dY c a) a=[52,53,50,32,109,97,110,121,13,10]):=Lib.hid (by unfold cz;rw [l,if_pos p];rfl);have Y:Hid (dj d c.most (j || f || dY c a) a=d):=Lib.hid (by unfold dj;rw [l,if_pos p];rfl);rw [X.out,Y.out];have c3:((d.length:Int) == c.most)=true:=by rw [beq_iff_eq];exact p
   clear h hc N A hm l J p O;go_enter Tryz.func148,Tryz.ntmps148;go_wp2_with fail
   refine v.out.mono ?_;rintro e K ⟨rfl,rfl⟩;go_wp2_with fail
   go_quiet (fail)
   have n:=bw nq w w.heap.size;obtain ⟨K,B⟩:∃K,w.drewN nq=K:=⟨_,rfl⟩;rw [B] at n ⊢;have b6:=Lib.hid ((HH.out.below n).tell (by simp) [52,53,50,32,109,97,110,121] (by decide));have K1:aF (fun _=>False) w K:=aF.below n;have a1:=Lib.hid K1;clear n B K1;go_wp2_with fail
   refine b6.out.mono ?_;rintro e E ⟨rfl,F,z⟩;go_wp2_with fail
   refine bodyPost_end (results_none rfl _ _ _) rfl ?_;exact ⟨rfl,F,_,(HT.out.chg a1.out (fun e=>e) (fun _ _ e=>e)).chg (aF.same z) (fun e=>D e.symm) (fun g U e=>G.out g U e.symm),(a1.out.mono (fun _ _ e=>e.elim)).trans (aF.same z) (fun _ _ e=> .inl e),fun k e=> .inl e⟩
  ·have c3:((d.length:Int) == c.most)=false:=by rw [beq_eq_false_iff_ne];exact p
   have X:Hid (∀b:Bool,cz d c.most b a=if b then [50,53,48,32,111,107,13,10] else [53,53,48,32,110,111,13,10]):=Lib.hid (fun b=>by unfold cz;rw [l,if_neg p];rfl);have Y:Hid (∀b:Bool,dj d c.most b a=if b then d++[a] else d):=Lib.hid (fun b=>by unfold dj;rw [l,if_neg p];rfl);obtain ⟨c7,M⟩:∃b,(j || f || dY c a)=b:=⟨_,rfl⟩;rw [M] at O ⊢;rw [X.out,Y.out];clear h hc N A hm l J p M X Y;go_enter Tryz.func148,Tryz.ntmps148;go_wp2_with fail
   refine v.out.mono ?_;rintro e K ⟨rfl,rfl⟩;go_wp2_with fail
   go_quiet (fail)
   have n:=bw nq w w.heap.size;have T:=O.out _ n;obtain ⟨K,B⟩:∃K,w.drewN nq=K:=⟨_,rfl⟩;rw [B] at n T ⊢;have b0:=Lib.hid T;have a0:=Lib.hid n;clear B n T;go_wp2_with fail
   refine b0.out.mono ?_;rintro e E ⟨rfl,t⟩;replace t:=a0.out.trans (t.mono a0.out.size);have K2:aF (fun _=>False) w E:=aF.below t;have F:=HH.out.below t;have x:=HT.out.chg K2 (fun e=>e) (fun _ _ e=>e)
   cases c7 with
   | false=>
    have Q:=Lib.hid (F.tell (by simp) [53,53,48,32,110,111] (by decide));have b2:=Lib.hid x;have a8:=Lib.hid K2;clear F x t K2;go_wp2_with fail
    refine Q.out.mono ?_;rintro e w3 ⟨rfl,h3,a2⟩;go_wp2_with fail
    refine bodyPost_end (results_none rfl _ _ _) rfl ?_;exact ⟨rfl,h3,_,b2.out.chg (aF.same a2) (fun e=>D e.symm) (fun g U e=>G.out g U e.symm),(a8.out.mono (fun _ _ e=>e.elim)).trans (aF.same a2) (fun _ _ e=> .inl e),fun k e=> .inl e⟩
   | true=>
    have d1:E.cell? ⟨q,1,none⟩=some (.slice av d.length cv):=x.cell 1;have e1:∀o:Obj,(E.alloc o).cell? ⟨q,1,none⟩=some (.slice av d.length cv):=fun o=>by rw [Lib.cell_of_heap ((((Below.refl E.heap.size E).alloc (Nat.le_refl _) o).block q (ah x.blk)).trans x.blk)];rfl
    obtain ⟨i,hi,c4,c5,c6⟩:=info_parts sM;obtain ⟨g,y,W4,a5,I,K4,c2⟩:=oC (P:=Tryz.prog) Tryz.underlying25 hi c4 c5 c6 rfl E (E.alloc (.cells #[.string (bs a)] 9)) _ (.string (bs a)) d.length (az d) x.row rfl ((Below.refl _ _).alloc (Nat.le_refl _) _) (heap_alloc_new E _) (by unfold maxLen;omega) (by omega);have b4:=K4.some_ x.blk (x.far);have d4:W4.cell? ⟨q,1,none⟩=some (.slice av d.length cv):=by rw [Lib.cell_of_heap b4];rfl
    have f4:=Lib.frozen_of_heap b4 1;have Z:aH q W4 (W4.setCell ⟨q,1,none⟩ (.slice (some ⟨g,0,none⟩) (d.length+1) y)):=(aH.refl _ _).setCell _;have b5:=heap_setCell_same W4 q 1 _ _ (.slice (some ⟨g,0,none⟩) (d.length+1) y) b4;obtain ⟨W5,c1⟩:∃W5:World,W4.setCell ⟨q,1,none⟩ (.slice (some ⟨g,0,none⟩) (d.length+1) y)=W5:=⟨_,rfl⟩;rw [c1] at Z b5
    have a6:q≠g:=fun e=>by
     obtain ⟨R,V⟩:=cX I (g:=g) rfl;rw [←e,b4] at V;simp at V
    have T5:qP W5 q (.slice (some ⟨g,0,none⟩) (d.length+1) y) vb S (d++[a]):=⟨b5,by
     have:=br I (aF.same Z) (fun k u e=>a6 (by injection u with u;exact e.symm.trans u.symm));rw [List.length_append]
     simpa [az] using this⟩
    have h5:=(F.chg K4 (fun e=>by
     obtain ⟨R,V⟩:=cX x.row e;rw [F.blk] at V
     simp at V) (fun e=>G.out H e rfl)).same Z (fun e=>by have:=F.blk;rw [e,x.blk] at this;simp at this) D
    have Q:=Lib.hid (h5.tell (by simp) [50,53,48,32,111,107] (by decide));have K5:aF (fun k=>k=H∨k=q∨(Value.slice av d.length cv).ownBlock=some k) w W5:=((K2.mono (fun _ _ e=>e.elim)).trans K4 (fun k _ e=> .inr (.inr e))).trans (aF.same Z) (fun k _ e=> .inr (.inl e))
    have a4:H≠g:=fun e=>by
     obtain ⟨s,r,L⟩:=h5.chan;obtain ⟨R,V⟩:=cX I (g:=g) rfl;rw [e,Z.2 g (fun e=>a6 e.symm),V] at L;simp at L
    have b3:=Lib.hid T5;have a9:=Lib.hid K5;have b1:=Lib.hid a5;have c9:w.heap.size≤E.heap.size:=t.size;clear F x t K2 b4 b5 Z T5 h5 K5 K4 I a5
    go_wp2_with (first
     | (at_builtin;refine bH rfl _ _ 25 rfl _ _ (.slice (some ⟨g,0,none⟩) (d.length+1) y) W4 rfl rfl b1.out ?_)
     | fail)
    refine Q.out.mono ?_;rintro e w6 ⟨rfl,b8,a3⟩;go_wp2_with fail
    refine bodyPost_end (results_none rfl _ _ _) rfl ?_;exact ⟨rfl,b8,_,b3.out.chg (aF.same a3) (fun e=>D e.symm) (fun k u e=>a4 (by injection u with u;exact e.symm.trans u.symm)),a9.out.trans (aF.same a3) (fun _ _ e=> .inl e),fun k u=>c2.elim (fun e=> .inl (by injection u with u;exact e.trans (congrArg some u))) (fun e=> .inr (by injection u with u;have u:g=k:=u;omega))⟩
structure mN where
 frm:List UInt8
 tos:List (List UInt8)
 body:Option dV
structure bA where
 nets:Bool
 greeted:Bool
 known:Bool
 over:Bool
 wait:List UInt8
 tx:Option mN
def qh (w:World) (A:Nat→Prop) (vb:Value):Option dV→Prop
 | none=>vb= .pointer none
 | some b=>∃bb vy,vb= .pointer (some ⟨bb,0,none⟩)∧A bb∧fV w bb vy b∧∀g,vy.ownBlock=some g→A g
def nk (w:World) (A:Nat→Prop) (vx:Value):Option mN→Prop
 | none=>vx= .pointer none
 | some t=>∃tb vt vb,vx= .pointer (some ⟨tb,0,none⟩)∧A tb∧qP w tb vt vb t.frm t.tos∧(∀g,vt.ownBlock=some g→A g)∧qh w A vb t.body
def gT (pp pb ch:Nat) (vw vx:Value) (s:bA):Array Value:=#[.pointer (some ⟨pp,0,none⟩),.pointer (some ⟨pb,0,none⟩),vw,.chan (some ch),.bool s.nets,.bool s.greeted,.bool s.known,.bool s.over,vx]
structure cC (w:World) (A:Nat→Prop) (pp pb sb ch:Nat) (vw:Value) (ls:List (List UInt8)) (s:bA):Prop where
 ex:∃vx,bP w sb ch (gT pp pb ch vw vx s) ls∧nk w A vx s.tx
 asb:A sb
 ach:A ch
 lt:∀k,A k→k < w.heap.size
def ye (t:TypeId):Prop:=t=216∨t=9∨t=253∨t=5
section
variable {w w':World} {A A' B:Nat→Prop} {pp pb sb ch:Nat} {vw vx vb:Value} {ls:List (List UInt8)} {s:bA}
theorem qh.off {o:Option dV} (h:qh w A vb o) (n:aF B w w') (i:∀k C t z,A k→w.heap[k]? =some (.cells C t z)→ye t→¬B k):qh w' A vb o:=by
 cases o with
 | none=>exact h
 | some b=>
  obtain ⟨d,p,e,a,c,f⟩:=h
  exact ⟨d,p,e,a,c.chg n (i d _ _ _ a c.blk (.inr (.inr (.inl rfl)))) (fun g j=>by
   obtain ⟨l,z,m⟩:=gi c.row j
   exact i g _ _ _ (f g j) m (.inr (.inr (.inr rfl)))),f⟩
theorem nk.off {o:Option mN} (h:nk w A vx o) (f:aF B w w') (c:∀k C t z,A k→w.heap[k]? =some (.cells C t z)→ye t→¬B k):nk w' A vx o:=by
 cases o with
 | none=>exact h
 | some t=>
  obtain ⟨j,p,vb,e,a,b,d,m⟩:=h
  exact ⟨j,p,vb,e,a,b.chg f (c j _ _ _ a b.blk (.inl rfl)) (fun g i=>by
   obtain ⟨l,n⟩:=cX b.row i
   exact c g _ _ _ (d g i) n (.inr (.inl rfl))),d,m.off f c⟩
theorem qh.mono {o:Option dV} (h:qh w A vb o) (c:∀k,A k→A' k):qh w A' vb o:=by
 cases o with
 | none=>exact h
 | some b=>
  obtain ⟨d,l,e,a,f,i⟩:=h;exact ⟨d,l,e,c _ a,f,fun g j=>c _ (i g j)⟩
theorem nk.mono {o:Option mN} (h:nk w A vx o) (b:∀k,A k→A' k):nk w A' vx o:=by
 cases o with
 | none=>exact h
 | some t=>
  obtain ⟨j,l,vb,e,a,c,d,f⟩:=h;exact ⟨j,l,vb,e,b _ a,c,fun g i=>b _ (d g i),f.mono b⟩
theorem cC.chg (h:cC w A pp pb sb ch vw ls s) (c:aF B w w') (b:∀k,A k→¬B k):cC w' A pp pb sb ch vw ls s:=by
 obtain ⟨vx,d,e⟩:=h.ex;exact ⟨⟨vx,d.chg c (b _ h.asb) (b _ h.ach),e.off c (fun k _ _ _ a _ _=>b k a)⟩,h.asb,h.ach,fun k f=>Nat.lt_of_lt_of_le (h.lt k f) c.size⟩
theorem cC.below (h:cC w A pp pb sb ch vw ls s) (a:Below w.heap.size w w'):cC w' A pp pb sb ch vw ls s:=h.chg (aF.below a:aF (fun _=>False) w w') (fun _ _ e=>e)
theorem rI {C:Array Value} (h:bP w sb ch C ls):∀k D t z,w.heap[k]? =some (.cells D t z)→ye t→¬(k=sb∨k=ch):=by
 rintro k D t z e b (rfl | rfl)
 ·rw [h.blk] at e;injection e with e;injection e with _ e _;subst e
  revert b
  unfold ye;decide
 ·obtain ⟨s,r,a⟩:=h.chan;rw [a] at e
  cases e
theorem cC.back (h:cC w A pp pb sb ch vw ls s) {a:Value} {b:List (List UInt8)} {c:bA} (e:bP w' sb ch (gT pp pb ch vw a c) b) (g:nk w' A' a c.tx) (d:∀k,A k→A' k) (f:∀k,A' k→k < w'.heap.size):cC w' A' pp pb sb ch vw b c:=
 ⟨⟨a,e,g⟩,d _ h.asb,d _ h.ach,f⟩
end
theorem cC.tell {w:World} {A:Nat→Prop} {pp pb sb ch:Nat} {vw:Value} {ls:List (List UInt8)} {s:bA} (h:cC w A pp pb sb ch vw ls s) (j:ls.length < 3) (l:List UInt8) (n:l.length≤1048576):
  Calls Tryz.prog 62 #[.pointer (some ⟨sb,0,none⟩),.string (bs l)] w fun e w'=>e= .returned (.tuple #[])∧cC w' A pp pb sb ch vw (ls++[l++[13,10]]) s∧aF A w w':=by
 obtain ⟨vx,b,d⟩:=h.ex;refine (b.tell j l n).mono ?_;rintro e w' ⟨rfl,f,g⟩;have a:aF (fun k=>k=ch) w w':=aF.same g;refine ⟨rfl,⟨⟨vx,f,d.off a (fun k C t z _ e m c=>rI b k C t z e m (.inr c))⟩,h.asb,h.ach,fun k i=>Nat.lt_of_lt_of_le (h.lt k i) a.size⟩,a.mono (fun k _ e=>by rw [e];exact h.ach)⟩
theorem aZ.chg {A:Nat→Prop} {w w':World} {v:Value} {n o:Nat} {f:List Value} (h:aZ w v n o f) (q:aF A w w') (t:∀g,v.ownBlock=some g→¬A g):aZ w' v n o f:=by
 refine ⟨h.1,?_⟩
 rcases h.2 with p | ⟨b,m,d,e,k,a⟩
 ·exact .inl p
 ·refine .inr ⟨b,m,d,e,k,fun j r=>?_⟩;have i:=a j r
  have l:b < w.heap.size:=by
   rcases hv:f[j]? with _ | x
   ·have:=h.1;rw [List.getElem?_eq_none_iff] at hv;omega
   ·rw [hv] at i;exact aA i
  rw [←i];exact World.cell?_of_block (q.block b l (t b (by rw [e];rfl)))
theorem Hu {A:Nat→Prop} {w w':World} {g h:Nat} (a:Lib.Utf8Tabs g h w) (b:aF A w w') (j:g < w.heap.size) (l:h < w.heap.size) (n:¬A g) (p:¬A h):Lib.Utf8Tabs g h w':=by
 have m:∀o,w'.cell? ⟨g,o,none⟩=w.cell? ⟨g,o,none⟩:=fun o=>World.cell?_of_block (b.block _ j n);have e:∀o,w'.cell? ⟨h,o,none⟩=w.cell? ⟨h,o,none⟩:=fun o=>World.cell?_of_block (b.block _ l p);exact ⟨fun k f=>(m k).trans (a.1 k f),fun i d=>⟨(e _).trans (a.2 i d).1,(e _).trans (a.2 i d).2⟩⟩
structure fO (E:Nat→Prop) (w:World) (pp:Nat) (c:bT):Prop where
 set:∃vD vN vU vW,jW w pp c vD vN vU vW∧∀k,(vD.ownBlock=some k∨vN.ownBlock=some k∨vU.ownBlock=some k∨vW.ownBlock=some k)→E k
 epp:E pp
 len:∃n,w.cell? ⟨0,0,none⟩=some (.int .i64 n)
 elen:E 0
 pow:rR w
 epow:E 6
 utf:Lib.Utf8Tabs 2 3 w
 efir:E 2
 eacc:E 3
 lt:∀k,E k→k < w.heap.size
section
variable {E A:Nat→Prop} {w w':World} {pp:Nat} {c:bT}
theorem fO.chg (h:fO E w pp c) (b:aF A w w') (a:∀k,E k→¬A k):fO E w' pp c:=by
 obtain ⟨o,p,q,r,d,f⟩:=h.set;obtain ⟨D,i,j⟩:=d.blk;obtain ⟨n,m⟩:=h.len;refine ⟨⟨o,p,q,r,⟨⟨D,b.some_ i (a _ h.epp),j⟩,⟨d.rows.1.chg b (fun g e=>a g (f g (.inl e))),d.rows.2.1.chg b (fun g e=>a g (f g (.inr (.inl e)))),d.rows.2.2.1.chg b (fun g e=>a g (f g (.inr (.inr (.inl e))))),d.rows.2.2.2.chg b (fun g e=>a g (f g (.inr (.inr (.inr e)))))⟩,d.may⟩,f⟩,h.epp,⟨n,?_⟩,h.elen,h.pow.chg b (a _ h.epow),h.epow,Hu h.utf b (h.lt _ h.efir) (h.lt _ h.eacc) (a _ h.efir) (a _ h.eacc),h.efir,h.eacc,fun k l=>Nat.lt_of_lt_of_le (h.lt k l) b.size⟩;rw [←m];exact World.cell?_of_block (b.block _ (h.lt _ h.elen) (a _ h.elen))
theorem fO.below (h:fO E w pp c) (a:Below w.heap.size w w'):fO E w' pp c:=h.chg (aF.below a:aF (fun _=>False) w w') (fun _ _ e=>e)
theorem fO.may (h:fO E w pp c):iL c=true:=by
 obtain ⟨_,_,_,_,a,_⟩:=h.set;exact a.may
end
structure nj where
 verb:Nat
 name:List UInt8
 size:Nat
 shown:List UInt8
def jJ:List UInt8:=[50,53,48,32,111,107,13,10]
def xH:List UInt8:=[53,48,48,32,119,104,97,116,13,10]
def FC:List UInt8:=[53,48,49,32,104,111,119,13,10]
def mn:List UInt8:=[53,48,51,32,102,105,114,115,116,13,10]
def uG:List UInt8:=[53,53,50,32,115,105,122,101,13,10]
def FB:List UInt8:=[50,50,49,32,98,121,101,13,10]
def zw:List UInt8:=[51,53,52,32,103,111,13,10]
def DN:List UInt8:=[50,51,53,32,111,107,13,10]
def FD:List UInt8:=[53,51,53,32,110,111,13,10]
def G6:List UInt8:=[52,53,50,32,114,111,111,109,13,10]
def cL (c:bT):List UInt8:=c.host.data.toList
def fC (s:bA) (v:Nat):Bool:=i7 v s.greeted (s.tx.map fun t=>t.tos.length)
def bt (c:bT) (s:bA) (k:nj):bA×List (List UInt8):=
 if fC s k.verb=false then (s,[mn]) else
 match k.verb with
 | 0=>(s,[xH])
 | 1=>(s,[FC])
 | 2=>({s with over:=true},[FB])
 | 3=>(s,[jJ])
 | 4=>({s with tx:=none},[jJ])
 | 5=>(match s.tx with | some t=>({s with tx:=some {t with body:=some ⟨[],false,false⟩}},[zw]) | none=>(s,[]))
 | 6=>({s with greeted:=true,tx:=none},[[50,53,48,32]++cL c++[13,10]])
 | 7=>({s with greeted:=true,tx:=none},[[50,53,48,45]++cL c++[13,10],[50,53,48,45,83,73,90,69,32]++Lib.itoa c.size++[13,10],[50,53,48,32,65,85,84,72,32,80,76,65,73,78,13,10]])
 | 8=>if s.tx.isSome || s.known then (s,[mn]) else if c.users.any (iw (bs k.shown)) then ({s with known:=true},[DN]) else (s,[FD])
 | 9=>if s.tx.isSome then (s,[mn]) else if c.size < (k.size:Int) then (s,[uG]) else ({s with tx:=some ⟨k.name,[],none⟩},[jJ])
 | 10=>(match s.tx with | some t=>({s with tx:=some {t with tos:=dj t.tos c.most (s.nets || s.known || dY c k.name) k.name}},[cz t.tos c.most (s.nets || s.known || dY c k.name) k.name]) | none=>(s,[]))
 | _=>(s,[])
def cG (A:Nat→Prop) (pp pb sb ch:Nat) (vw:Value) (w:World) (s':bA) (ls':List (List UInt8)) (e:Ending) (w':World):Prop:=
 e= .returned (.tuple #[])∧∃A',cC w' A' pp pb sb ch vw ls' s'∧(∀k,A k→A' k)∧(∀k,A' k→A k∨w.heap.size≤k)∧aF A w w'
theorem cG.from {A:Nat→Prop} {pp pb sb ch:Nat} {vw:Value} {w b w':World} {f:bA} {a:List (List UInt8)} {e:Ending} (d:Below w.heap.size w b) (h:cG A pp pb sb ch vw b f a e w'):cG A pp pb sb ch vw w f a e w':=by
 obtain ⟨i,g,j,l,m,n⟩:=h;exact ⟨i,g,j,l,fun k o=>(m k o).imp id (fun e=>Nat.le_trans d.size e),(aF.below d:aF A w b).trans n (fun k _ e=>e)⟩
section
variable {A:Nat→Prop} {pp pb sb ch:Nat} {vw:Value} {w:World} {s:bA}
theorem cC.told1 (h:cC w A pp pb sb ch vw [] s) (l:List UInt8) (f:l.length≤1048576):Calls Tryz.prog 62 #[.pointer (some ⟨sb,0,none⟩),.string (bs l)] w (cG A pp pb sb ch vw w s [l++[13,10]]):=by
 refine (h.tell (by simp) l f).mono ?_;rintro e w' ⟨rfl,b,d⟩;exact ⟨rfl,A,b,fun _ a=>a,fun _ a=> .inl a,d⟩
theorem jo {w':World} {s':bA} {b:List (List UInt8)} {C:Array Value} {vx':Value} (h:cC w A pp pb sb ch vw [] s) (f:bP w sb ch C []) (d:aF (fun k=>k=sb∨k=ch) w w') (g:bP w' sb ch (gT pp pb ch vw vx' s') b) (l:nk w A vx' s'.tx):cG A pp pb sb ch vw w s' b (.returned (.tuple #[])) w':=
 ⟨rfl,A,⟨⟨vx',g,l.off d (fun k C t z _ e j=>rI f k C t z e j)⟩,h.asb,h.ach,fun k i=>Nat.lt_of_lt_of_le (h.lt k i) d.size⟩,fun _ a=>a,fun _ a=> .inl a,d.mono (fun k _ e=>by rcases e with e | e <;> rw [e];exact h.asb;exact h.ach)⟩
theorem oJ {w':World} (b:∀k,k < w.heap.size→k≠sb→k≠ch→w'.heap[k]? =w.heap[k]?) (d:dI w w') (f:w.heap.size≤w'.heap.size):aF (fun k=>k=sb∨k=ch) w w':=⟨f,fun k g a=>b k g (fun e=>a (.inl e)) (fun e=>a (.inr e)),d⟩
theorem cC.quit (h:cC w A pp pb sb ch vw [] s):Calls Tryz.prog 142 #[.pointer (some ⟨sb,0,none⟩)] w (cG A pp pb sb ch vw w {s with over:=true} [FB]):=by
 obtain ⟨g,a,b⟩:=h.ex;refine (Gf sb ch _ w a).mono ?_;rintro e w' ⟨rfl,d,f⟩;exact jo h a f (s':={s with over:=true}) d b
theorem cC.reset (h:cC w A pp pb sb ch vw [] s):Calls Tryz.prog 143 #[.pointer (some ⟨sb,0,none⟩)] w (cG A pp pb sb ch vw w {s with tx:=none} [jJ]):=by
 obtain ⟨j,a,i⟩:=h.ex;refine (El sb ch _ w a).mono ?_;rintro e w' ⟨rfl,b,d,f,g⟩;exact jo h a (oJ (fun k _=>d k) f (Nat.le_of_eq g.symm)) (s':={s with tx:=none}) (vx':= .pointer none) b rfl
variable {E:Nat→Prop} {c:bT}
theorem rz (c:bT):bs (cL c)=c.host:=rfl
theorem fO.host (b:fO E w pp c):w.cell? ⟨pp,0,none⟩=some (.string (bs (cL c)))∧(cL c).length≤255:=by
 obtain ⟨d,f,g,h,a,_⟩:=b.set;refine ⟨(a.cell 0 (by decide)).trans rfl,?_⟩;have:=a.small.host;have e:=aI (cL c);rw [rz] at e;omega
theorem cC.greet (h:cC w A pp pb sb ch vw [] s) (a:fO E w pp c) (j:∀k,E k→¬A k):Calls Tryz.prog 144 #[.pointer (some ⟨sb,0,none⟩)] w (cG A pp pb sb ch vw w {s with greeted:=true,tx:=none} [[50,53,48,32]++cL c++[13,10]]):=by
 obtain ⟨m,b,l⟩:=h.ex;refine (Dy sb ch pp _ (cL c) w b rfl a.host.1 (fun e=>j pp a.epp (by rw [e];exact h.asb)) a.host.2).mono ?_;rintro e w' ⟨rfl,d,f,g,i⟩;exact jo h b (oJ (fun k _=>f k) g (Nat.le_of_eq i.symm)) (s':={s with greeted:=true,tx:=none}) (vx':= .pointer none) d rfl
theorem mu (h:iL c=true):(1≤c.most∧c.most≤10)∧(1≤c.size∧c.size≤1000)∧0≤c.room∧c.room≤1000000:=by
 unfold iL cd at h;simp only [Bool.and_eq_true,decide_eq_true_eq] at h;obtain ⟨⟨⟨⟨⟨⟨⟨⟨_,_⟩,_⟩,_⟩,a⟩,b⟩,_⟩,_⟩,d⟩:=h;exact ⟨a,b,d⟩
theorem cC.more (h:cC w A pp pb sb ch vw [] s) (a:fO E w pp c) (b:∀k,E k→¬A k):Calls Tryz.prog 145 #[.pointer (some ⟨sb,0,none⟩)] w (cG A pp pb sb ch vw w {s with greeted:=true,tx:=none} [[50,53,48,45]++cL c++[13,10],[50,53,48,45,83,73,90,69,32]++Lib.itoa c.size++[13,10],[50,53,48,32,65,85,84,72,32,80,76,65,73,78,13,10]]):=by
 obtain ⟨q,d,j⟩:=h.ex;obtain ⟨m,n,o,p,i,_⟩:=a.set;have l:=mu a.may;refine (uu sb ch pp _ (cL c) c.size w d rfl a.host.1 ((i.cell 5 (by decide)).trans rfl) (fun e=>b pp a.epp (by rw [e];exact h.asb)) (fun e=>b pp a.epp (by rw [e];exact h.ach)) a.host.2 a.pow (fun e=>b _ a.epow (by rw [←e];exact h.asb)) (fun e=>b _ a.epow (by rw [←e];exact h.ach)) (by omega) (by omega)).mono ?_;rintro e w' ⟨rfl,f,g⟩;exact jo h d g (s':={s with greeted:=true,tx:=none}) (vx':= .pointer none) f rfl
end
section
variable {A:Nat→Prop} {pp pb sb ch:Nat} {vw:Value} {w:World} {s:bA} {E:Nat→Prop} {c:bT}
theorem rH {a:World} (h:aH ch w a):aF (fun k=>k=sb∨k=ch) w a:=(aF.same h).mono (fun _ _ e=> .inr e)
theorem nk.ptr {b:Value} {o:Option mN} (h:nk w A b o) (d:o.isSome=true):∃a,b= .pointer (some ⟨a,0,none⟩):=by
 cases o with
 | none=>cases d
 | some t=>obtain ⟨a,_,_,e,_⟩:=h;exact ⟨a,e⟩
theorem nk.nil {a:Value} {o:Option mN} (h:nk w A a o) (b:o.isSome=false):a= .pointer none:=by
 cases o with
 | none=>exact h
 | some t=>cases b
def o7 (c:bT) (s:bA) (shown:List UInt8):bA×List (List UInt8):=if s.tx.isSome || s.known then (s,[mn]) else if c.users.any (iw (bs shown)) then ({s with known:=true},[DN]) else (s,[FD])
theorem cC.know (h:cC w A pp pb sb ch vw [] s) (o:fO E w pp c) (a:List UInt8):Calls Tryz.prog 146 #[.pointer (some ⟨sb,0,none⟩),.string (bs a)] w (cG A pp pb sb ch vw w (o7 c s a).1 (o7 c s a).2):=by
 obtain ⟨y,d,f⟩:=h.ex;obtain ⟨t,u,v,x,q,_⟩:=o.set;unfold o7
 cases l:s.tx.isSome with
 | true=>
  obtain ⟨r,rfl⟩:=f.ptr l;refine (DM sb ch r _ (bs a) w d rfl).mono ?_;rintro e n ⟨rfl,b,g⟩;exact jo h d (rH g) (s':=s) b f
 | false=>
  have p:=f.nil l;subst p
  cases k:s.known with
  | true=>
   refine (Bs sb ch _ (bs a) w d rfl (by rw [←k];rfl)).mono ?_;rintro e n ⟨rfl,b,g⟩;exact jo h d (rH g) (s':=s) b f
  | false=>
   refine (FA sb ch pp _ c t u v x (bs a) w d q rfl rfl (by rw [←k];rfl)).mono ?_;rintro e n ⟨rfl,b,g,i,j⟩
   cases m:c.users.any (iw (bs a)) with
   | true=>
    rw [m] at b;exact jo h d (oJ g i j) (s':={s with known:=true}) b f
   | false=>
    rw [m] at b;exact jo h d (oJ g i j) (s':=s) b f
def lf (c:bT) (s:bA) (name:List UInt8) (size:Int):bA×List (List UInt8):=if s.tx.isSome then (s,[mn]) else if c.size < size then (s,[uG]) else ({s with tx:=some ⟨name,[],none⟩},[jJ])
theorem cC.mail (h:cC w A pp pb sb ch vw [] s) (x:fO E w pp c) (d:List UInt8) (b:Int):Calls Tryz.prog 147 #[.pointer (some ⟨sb,0,none⟩),.string (bs d),.int .i64 b] w (cG A pp pb sb ch vw w (lf c s d b).1 (lf c s d b).2):=by
 obtain ⟨G,j,n⟩:=h.ex;obtain ⟨B,C,D,F,q,_⟩:=x.set;unfold lf
 cases r:s.tx.isSome with
 | true=>
  obtain ⟨z,rfl⟩:=n.ptr r;refine (wO sb ch z _ d b w j rfl).mono ?_;rintro e o ⟨rfl,l,m⟩;exact jo h j (rH m) (s':=s) l n
 | false=>
  have y:=n.nil r;subst y
  by_cases f:c.size < b
  ·simp only [f,if_true];refine (wP sb ch pp _ d b c.size w j rfl rfl ((q.cell 5 (by decide)).trans rfl) f).mono ?_;rintro e o ⟨rfl,l,m⟩;exact jo h j (rH m) (s':=s) l n
  ·simp only [f,if_false];refine (yG sb ch pp _ d b c.size w j rfl rfl ((q.cell 5 (by decide)).trans rfl) f).mono ?_;rintro e o ⟨rfl,l,t,m,u,v⟩;have p:w.heap.size < o.heap.size:=ah t;refine ⟨rfl,fun k=>A k∨k=w.heap.size,⟨⟨_,l,w.heap.size,.slice none 0 0,.pointer none,rfl,.inr rfl,⟨t,rfl,.inl ⟨rfl,rfl⟩⟩,(fun g e=>by cases e),rfl⟩,.inl h.asb,.inl h.ach,fun k i=>?_⟩,fun _ a=> .inl a,fun k i=>i.imp id (fun e=>Nat.le_of_eq e.symm),(oJ m u v).mono (fun k _ e=>by rcases e with e | e <;> rw [e];exact h.asb;exact h.ach)⟩
   rcases i with i | i
   ·have:=h.lt k i;omega
   ·omega
theorem cC.rcpt (h:cC w A pp pb sb ch vw [] s) (v:fO E w pp c) {t:mN} (L:s.tx=some t) (i:t.body=none) (b:List UInt8) (I:b.length≤1048576) (G:t.tos.length≤10):
  Calls Tryz.prog 148 #[.pointer (some ⟨sb,0,none⟩),.string (bs b)] w (cG A pp pb sb ch vw w {s with tx:=some {t with tos:=dj t.tos c.most (s.nets || s.known || dY c b) b}} [cz t.tos c.most (s.nets || s.known || dY c b) b]):=by
 obtain ⟨S,B,n⟩:=h.ex;obtain ⟨N,O,P,Q,K,_⟩:=v.set;obtain ⟨m,H⟩:=v.len;rw [L] at n;obtain ⟨x,R,l,rfl,u,F,r,q⟩:=n;rw [i] at q;refine (yu sb ch pp x _ c N O P Q R l s.nets s.known t.frm b t.tos m w B K F rfl rfl rfl rfl I G H).mono ?_;rintro e y ⟨rfl,C,f,o,p,D⟩
 have M:∀g,f.ownBlock=some g→g < y.heap.size:=fun g j=>by
  obtain ⟨z,J⟩:=cX o.row j;exact ah J
 refine ⟨rfl,fun k=>A k∨f.ownBlock=some k,⟨⟨_,C,x,f,l,rfl,.inl u,o,fun g j=> .inr j,?_⟩,.inl h.asb,.inl h.ach,fun k d=>?_⟩,fun _ a=> .inl a,fun k d=>?_,p.mono (fun k _ e=>?_)⟩
 ·show qh y _ l t.body;rw [i];exact q
 ·rcases d with d | d
  ·exact Nat.lt_of_lt_of_le (h.lt k d) p.size
  ·exact M k d
 ·rcases d with d | d
  ·exact .inl d
  ·exact (D k d).imp (r k) id
 ·rcases e with e | e | e
  ·rw [e];exact h.ach
  ·rw [e];exact u
  ·exact r k e
theorem cC.data (h:cC w A pp pb sb ch vw [] s) {t:mN} (I:s.tx=some t):
  Calls Tryz.prog 149 #[.pointer (some ⟨sb,0,none⟩)] w (cG A pp pb sb ch vw w {s with tx:=some {t with body:=some ⟨[],false,false⟩}} [zw]):=by
 obtain ⟨M,l,m⟩:=h.ex;rw [I] at m;obtain ⟨j,x,J,rfl,o,d,H,K⟩:=m;refine (um sb ch j _ _ x J w l rfl d.blk).mono ?_;rintro e y ⟨rfl,B,C,n,D,F,G⟩;have p:aF (fun k=>k=j∨k=ch) w y:=⟨G,fun k b u=>D k b (fun e=>u (.inl e)) (fun e=>u (.inr e)),F⟩;have q:w.heap.size < y.heap.size:=ah n;refine ⟨rfl,fun k=>A k∨k=w.heap.size,⟨⟨_,B,j,x,_,rfl,.inl o,⟨C,br d.row p (fun g f e=>?_)⟩,fun g f=> .inl (H g f),w.heap.size,.slice none 0 0,rfl,.inr rfl,⟨n,World.ownsRowF_nil _ _ _ _⟩,(fun g e=>by cases e)⟩,.inl h.asb,.inl h.ach,fun k b=>?_⟩,fun _ a=> .inl a,fun k b=>b.imp id (fun e=>Nat.le_of_eq e.symm),p.mono (fun k _ e=>?_)⟩
 ·rcases e with e | e
  ·exact d.far (by rw [←e];exact f)
  ·obtain ⟨z,v⟩:=cX d.row f;obtain ⟨L,r,i⟩:=l.chan;rw [e,i] at v
   cases v
 ·rcases b with b | b
  ·have:=h.lt k b;omega
  ·omega
 ·rcases e with e | e <;> rw [e]
  ·exact o
  ·exact h.ach
end
def iT (k:nj):Value:= .agg #[.int .i64 (k.verb:Int),.string (bs k.name),.int .i64 (k.size:Int),.string (bs k.shown)]
def hZ:nj:=⟨1,[],0,[]⟩
def qy (v:Nat):nj:=⟨v,[],0,[]⟩
def ku (v:Nat) (has:Bool):nj:=if has then hZ else qy v
def mg (v:Nat) (arg:List UInt8):nj:=if iK arg then qy v else hZ
theorem gN {f:World} {k:Nat} {a b c d x y z u:Value} {t:TypeId} (h:f.heap[k]? =some (.cells #[a,b,c,d] t (0,0))):
  let W:=(((f.setCell ⟨k,0,none⟩ x).setCell ⟨k,1,none⟩ y).setCell ⟨k,2,none⟩ z).setCell ⟨k,3,none⟩ u
  W.cell? ⟨k,0,none⟩=some x∧W.cell? ⟨k,1,none⟩=some y∧W.cell? ⟨k,2,none⟩=some z∧W.cell? ⟨k,3,none⟩=some u∧aH k f W:=by
 intro W;have g:=heap_setCell_same f k 0 _ _ x h;have i:=heap_setCell_same _ k 1 _ _ y g;have j:=heap_setCell_same _ k 2 _ _ z i;have e:=heap_setCell_same _ k 3 _ _ u j;exact ⟨by rw [Lib.cell_of_heap e];rfl,by rw [Lib.cell_of_heap e];rfl,by rw [Lib.cell_of_heap e];rfl,by rw [Lib.cell_of_heap e];rfl,((((aH.refl _ _).setCell _).setCell _).setCell _).setCell _⟩
theorem jL (v:Nat) (a:Bool) (w:World):Calls Tryz.prog 152 #[.int .i64 (v:Int),.bool a] w fun e g=>e= .returned (iT (ku v a))∧Below w.heap.size w g:=by
 cases a with
 | true=>
  go_enter Tryz.func152,Tryz.ntmps152;go_wp2_with fail
  have X:=heap_alloc_new w (.cells #[.int .i64 1,.string ⟨#[]⟩,.int .i64 0,.string ⟨#[]⟩] 179);have b:(w.alloc (.cells #[.int .i64 1,.string ⟨#[]⟩,.int .i64 0,.string ⟨#[]⟩] 179)).cell? ⟨w.heap.size,0,none⟩=some (.int .i64 1):=by rw [Lib.cell_of_heap X];rfl
  have c:(w.alloc (.cells #[.int .i64 1,.string ⟨#[]⟩,.int .i64 0,.string ⟨#[]⟩] 179)).cell? ⟨w.heap.size,1,none⟩=some (.string ⟨#[]⟩):=by rw [Lib.cell_of_heap X];rfl
  have d:(w.alloc (.cells #[.int .i64 1,.string ⟨#[]⟩,.int .i64 0,.string ⟨#[]⟩] 179)).cell? ⟨w.heap.size,2,none⟩=some (.int .i64 0):=by rw [Lib.cell_of_heap X];rfl
  have f:(w.alloc (.cells #[.int .i64 1,.string ⟨#[]⟩,.int .i64 0,.string ⟨#[]⟩] 179)).cell? ⟨w.heap.size,3,none⟩=some (.string ⟨#[]⟩):=by rw [Lib.cell_of_heap X];rfl
  refine bodyPost_ret (v:= .agg #[.int .i64 1,.string ⟨#[]⟩,.int .i64 0,.string ⟨#[]⟩]) (by simp [results,Tryz.results152,go_sem,b,c,d,f]) rfl ?_;exact ⟨rfl,(Below.refl _ _).alloc (Nat.le_refl _) _⟩
 | false=>
  go_enter Tryz.func152,Tryz.ntmps152;go_wp2_with fail
  have X:=heap_alloc_new w (.cells #[.int .i64 (v:Int),.string ⟨#[]⟩,.int .i64 0,.string ⟨#[]⟩] 179);have b:(w.alloc (.cells #[.int .i64 (v:Int),.string ⟨#[]⟩,.int .i64 0,.string ⟨#[]⟩] 179)).cell? ⟨w.heap.size,0,none⟩=some (.int .i64 (v:Int)):=by rw [Lib.cell_of_heap X];rfl
  have c:(w.alloc (.cells #[.int .i64 (v:Int),.string ⟨#[]⟩,.int .i64 0,.string ⟨#[]⟩] 179)).cell? ⟨w.heap.size,1,none⟩=some (.string ⟨#[]⟩):=by rw [Lib.cell_of_heap X];rfl
  have d:(w.alloc (.cells #[.int .i64 (v:Int),.string ⟨#[]⟩,.int .i64 0,.string ⟨#[]⟩] 179)).cell? ⟨w.heap.size,2,none⟩=some (.int .i64 0):=by rw [Lib.cell_of_heap X];rfl
  have f:(w.alloc (.cells #[.int .i64 (v:Int),.string ⟨#[]⟩,.int .i64 0,.string ⟨#[]⟩] 179)).cell? ⟨w.heap.size,3,none⟩=some (.string ⟨#[]⟩):=by rw [Lib.cell_of_heap X];rfl
  refine bodyPost_ret (v:= .agg #[.int .i64 (v:Int),.string ⟨#[]⟩,.int .i64 0,.string ⟨#[]⟩]) (by simp [results,Tryz.results152,go_sem,b,c,d,f]) rfl ?_;exact ⟨rfl,(Below.refl _ _).alloc (Nat.le_refl _) _⟩
theorem nG (v:Nat) (arg:List UInt8) (m:Int) (w:World) (F:arg.length≤1048576) (o:w.cell? ⟨0,0,none⟩=some (.int .i64 m)):Calls Tryz.prog 153 #[.int .i64 (v:Int),.string (bs arg)] w fun e E=>e= .returned (iT (mg v arg))∧Below w.heap.size w E:=by
 obtain ⟨h,b⟩:∃h:World,w.alloc (.cells #[.int .i64 0,.string ⟨#[]⟩,.int .i64 0,.string ⟨#[]⟩] 179)=h:=⟨_,rfl⟩;have j:Below w.heap.size w h:=by rw [←b];exact (Below.refl _ _).alloc (Nat.le_refl _) _
 have D:h.heap[w.heap.size]? =some (.cells #[.int .i64 0,.string ⟨#[]⟩,.int .i64 0,.string ⟨#[]⟩] 179 (0,0)):=by rw [←b];exact heap_alloc_new w _
 have G:=aI arg;have B:=Lib.hid (gX (bs arg) m h (by unfold maxLen;omega) ((j.cell (aA o)).trans o));have d:=Lib.hid j;have l:=Lib.hid D;have k:=Lib.hid b;clear j D b o;go_enter Tryz.func153,Tryz.ntmps153;go_wp2_with fail
 rw [k.out];refine B.out.mono ?_;rintro e i ⟨rfl,c⟩;rw [aQ];have a:=ae c l.out;have H:i.cell? ⟨w.heap.size,0,none⟩=some (.int .i64 0):=by rw [Lib.cell_of_heap a];rfl
 have I:i.cell? ⟨w.heap.size,1,none⟩=some (.string ⟨#[]⟩):=by rw [Lib.cell_of_heap a];rfl
 have J:i.cell? ⟨w.heap.size,2,none⟩=some (.int .i64 0):=by rw [Lib.cell_of_heap a];rfl
 have K:i.cell? ⟨w.heap.size,3,none⟩=some (.string ⟨#[]⟩):=by rw [Lib.cell_of_heap a];rfl
 have L:=Lib.frozen_of_heap a 0;have M:=Lib.frozen_of_heap a 1;have N:=Lib.frozen_of_heap a 2;have O:=Lib.frozen_of_heap a 3;have g:=Lib.hid a;have f:=Lib.hid (d.out.trans (c.mono d.out.size));obtain ⟨t,n⟩:∃t,iK arg=t:=⟨_,rfl⟩;rw [n];have C:Hid (mg v arg=if t then qy v else hZ):=Lib.hid (by unfold mg;rw [n]);clear a c n B
 cases t with
 | true=>
  go_wp2_with fail
  obtain ⟨p,q,r,s,A⟩:=gN (x:= .int .i64 (v:Int)) (y:= .string ⟨#[]⟩) (z:= .int .i64 0) (u:= .string ⟨#[]⟩) g.out;refine bodyPost_ret (v:= .agg #[.int .i64 (v:Int),.string ⟨#[]⟩,.int .i64 0,.string ⟨#[]⟩]) (by simp [results,Tryz.results153,go_sem,p,q,r,s]) rfl ?_;exact ⟨by rw [C.out];rfl,f.out.trans (A.below (Nat.le_refl _))⟩
 | false=>
  go_wp2_with fail
  obtain ⟨p,q,r,s,A⟩:=gN (x:= .int .i64 1) (y:= .string ⟨#[]⟩) (z:= .int .i64 0) (u:= .string ⟨#[]⟩) g.out;refine bodyPost_ret (v:= .agg #[.int .i64 1,.string ⟨#[]⟩,.int .i64 0,.string ⟨#[]⟩]) (by simp [results,Tryz.results153,go_sem,p,q,r,s]) rfl ?_;exact ⟨by rw [C.out];rfl,f.out.trans (A.below (Nat.le_refl _))⟩
def ee (l:List UInt8):Prop:=∀x∈l,x.toNat < 128
def eE (s p:List UInt8):Option (List UInt8):=if s.length < p.length then none else if Lib.equalFold (s.take p.length) p then some (s.drop p.length) else none
def vB (o:Option (List UInt8)):Value:=
 match o with
 | some r=> .tuple #[.string (bs r),.bool true]
 | none=> .tuple #[.string ⟨#[]⟩,.bool false]
theorem jk (s p:List UInt8) (w:World) (_:s.length≤1048576) (r:p.length≤100) (i:ee s) (k:ee p):Calls Tryz.prog 208 #[.string (bs s),.string (bs p)] w fun e f=>e= .returned (vB (eE s p))∧w=f:=by
 have o:=aI s;have q:=aI p
 by_cases c:s.length < p.length
 ·have a:Hid (eE s p=none):=Lib.hid (by unfold eE;rw [if_pos c]);have m:(s.length:Int) < (p.length:Int):=by omega
  go_enter Tryz.func208,Tryz.ntmps208;go_wp2_with fail
  go_ret2
  exact ⟨by rw [a.out];rfl,rfl⟩
 ·have m:¬(s.length:Int) < (p.length:Int):=by omega
  have n:(bs s).extract 0 p.length=bs (s.take p.length):=by rw [gw,List.drop_zero]
  have l:(bs s).extract p.length s.length=bs (s.drop p.length):=by rw [gw,List.take_length]
  have g:Hid (∀W:World,Calls Tryz.prog 246 #[.string (bs (s.take p.length)),.string (bs p)] W fun e f=>e= .returned (.bool (Lib.equalFold (s.take p.length) p))∧f=W):=Lib.hid (fun W=>Tryz.strings_EqualFold (bs (s.take p.length)) (bs p) W (by rw [aI,List.length_take];omega) (fun j b d=>i b (List.mem_of_mem_take (List.mem_of_getElem? d))) (fun j b d=>k b (List.mem_of_getElem? d)));have a:Hid (eE s p=if Lib.equalFold (s.take p.length) p then some (s.drop p.length) else none):=Lib.hid (by unfold eE;rw [if_neg c]);obtain ⟨t,h⟩:∃t,Lib.equalFold (s.take p.length) p=t:=⟨_,rfl⟩;rw [h] at g a;clear i k h;go_enter Tryz.func208,Tryz.ntmps208;go_wp2_with fail
  refine (g.out w).mono ?_;rintro e u ⟨rfl,rfl⟩
  cases t with
  | true=>
   go_wp2_with fail
   go_ret2
   exact ⟨by rw [a.out];rfl,rfl⟩
  | false=>
   go_wp2_with fail
   go_ret2
   exact ⟨by rw [a.out];rfl,rfl⟩
end Go.Proofs.YtofpegbpgkkgkaaGreatDoor
