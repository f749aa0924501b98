import Derived.Test.YtofpegbpgkkgkaaGreatDoorS08
import Derived.Test.YtofpegbpgkkgkaaGreatDoorS06
import Derived.Test.YtofpegbpgkkgkaaGreatDoorS07
namespace Go.Proofs.YtofpegbpgkkgkaaGreatDoor
set_option maxHeartbeats 8000000
set_option maxRecDepth 1000000
open Go.RowKit
def oM (s:ByteArray):Prop:=∀(j:Nat) (b:UInt8),s.data.toList[j]? =some b→b.toNat < 128
def my (dom:ByteArray) (d:ByteArray):Bool:=Lib.equalFold d.data.toList dom.data.toList
theorem ER (d a:ByteArray) (g:Nat) (w:World) (i:w.cell? ⟨g,0,none⟩=some (.string a)) (j:d.size≤255) (c:oM d) (f:oM a):
  Calls Tryz.prog 266 #[.string d,.pointer (some ⟨g,0,none⟩)] w fun e b=>e= .returned (.bool (my a d))∧Below w.heap.size w b:=by
 have h:Hid (∀W:World,Calls Tryz.prog 246 #[.string d,.string a] W fun e b=>e= .returned (.bool (Lib.equalFold d.data.toList a.data.toList))∧b=W):=Lib.hid (fun W=>Tryz.strings_EqualFold d a W (by omega) c f);clear c f;go_enter Tryz.func266,Tryz.ntmps266;go_wp2_with fail
 refine (h.out _).mono ?_;rintro e k ⟨rfl,rfl⟩;go_wp2_with fail
 go_ret;exact ⟨rfl,Below.refl _ _⟩
theorem tC {l:List ByteArray} {p:ByteArray→Bool} {k:Nat} (h:k < l.length) (a:(l.take k).any p=false) (b:p l[k]=false):(l.take (k+1)).any p=false:=by
 rw [List.take_succ_eq_append_getElem h,List.any_append,a];simp [b]
theorem uj (l:List ByteArray) (v:Value) (u:Nat) (a:ByteArray) (w:World) (N:bg w v l.length 1 (dK l)) (K:w.cell? ⟨u,0,none⟩=some (.string a)) (X:l.length≤5) (O:∀d∈l,d.size≤255∧oM d) (I:oM a):
  Calls Tryz.prog 289 #[v,.func (.func 266) #[] #[.pointer (some ⟨u,0,none⟩)]] w fun e E=>∃r:Int,e= .returned (.int .i64 r)∧(-1≤r∧r≤255)∧decide (0≤r)=l.any (my a)∧Below w.heap.size w E:=by
 obtain ⟨U,V,rfl,h⟩:=N.one;have Q:=Lib.hid h;have F:=Lib.hid K;have R:=Lib.hid O;have P:=Lib.hid I;obtain ⟨s,M⟩:∃s,w.heap.size=s:=⟨_,rfl⟩;have f:=Lib.hid M;clear N M K h O I;go_enter Tryz.func289,Tryz.ntmps289;go_wp2_with fail
 go_loopw [5,8] (fun _ i E=>∃k:Nat,k≤l.length∧i= .int .i64 k∧Hid ((l.take k).any (my a)=false)∧Hid (Below s w E)) (fun _ i _=>l.length - (intOf i).toNat)
 case atStart=>exact ⟨0,Nat.zero_le _,rfl,Lib.hid rfl,Lib.hid (by rw [←f.out];exact Below.refl _ _)⟩
 case round=>
  obtain ⟨k,W,rfl,y,o⟩:=hrel
  by_cases j:k < l.length
  ·have L:(k:Int) < (l.length:Int):=by omega
   obtain ⟨g,D,rfl,B,A⟩:=Q.out k j;rw [dK,List.getElem?_map,List.getElem?_eq_getElem j] at A;have S:wr.cell? ⟨g,D+k,none⟩=some (.string l[k]):=(o.out.cell (by show g < s;rw [←f.out];exact B)).trans A;have G:wr.cell? ⟨u,0,none⟩=some (.string a):=(o.out.cell (by show u < s;rw [←f.out];exact aC F.out)).trans F.out;have q:Hid (∀b:Bool,my a l[k]=b→(b=true→l.any (my a)=true)∧(b=false→(l.take (k+1)).any (my a)=false)):=Lib.hid (fun b J=>⟨fun e=>List.any_eq_true.2 ⟨_,List.getElem_mem j,by rw [J,e]⟩,fun e=>tC j y.out (by rw [J,e])⟩);have m:=R.out l[k] (List.getElem_mem j);obtain ⟨x,H⟩:∃x,l[k]=x:=⟨_,rfl⟩;rw [H] at S q m;have c:=Lib.hid (ER x a u wr G m.1 m.2 P.out);have t:s≤wr.heap.size:=by have:=o.out.size;have:=f.out;omega
   clear H A G y m
   cases p:my a x with
   | true=>
    have z:=Lib.hid ((q.out true p).1 rfl);rw [p] at c;clear q p;go_wp2_with (first | (go_at_call 266;refine c.out.mono ?_;rintro e T ⟨rfl,n⟩) | fail)
    go_ret;exact ⟨_,rfl,by omega,by rw [z.out];simp,by rw [f.out];exact o.out.trans (n.mono t)⟩
   | false=>
    have z:=Lib.hid ((q.out false p).2 rfl);rw [p] at c;clear q p;go_wp2_with (first | (go_at_call 266;refine c.out.mono ?_;rintro e T ⟨rfl,n⟩) | fail)
    exact ⟨⟨k+1,by omega,by go_num,z,Lib.hid (o.out.trans (n.mono t))⟩,by simp [intOf];omega⟩
  ·have C:k=l.length:=by omega
   subst C;rw [List.take_length] at y;go_wp2_with fail
   go_ret;exact ⟨_,rfl,by omega,by rw [y.out];rfl,by rw [f.out];exact o.out⟩
theorem pF (l:List ByteArray) (v:Value) (b:Nat) (a:ByteArray) (w:World) (i:bg w v l.length 1 (dK l)) (f:w.cell? ⟨b,0,none⟩=some (.string a)) (o:l.length≤5) (j:∀d∈l,d.size≤255∧oM d) (c:oM a):
  Calls Tryz.prog 265 #[v,.func (.func 266) #[] #[.pointer (some ⟨b,0,none⟩)]] w fun e k=>e= .returned (.bool (l.any (my a)))∧Below w.heap.size w k:=by
 have h:=uj l v b a w i f o j c;clear i f j c;go_enter Tryz.func265,Tryz.ntmps265;go_wp2_with fail
 refine h.mono ?_;rintro e k ⟨r,rfl,p,g,n⟩;have m:=Lib.hid g;clear g h;go_wp2_with fail
 go_ret;exact ⟨by rw [←m.out];rfl,n⟩
theorem vX {l:List UInt8} (h:∀(j:Nat) (b:UInt8),l[j]? =some b→b.toNat < 128):∀(j:Nat) (b:UInt8),(Lib.toLowerA l)[j]? =some b→b.toNat < 128:=by
 intro j b c;unfold Lib.toLowerA at c;rw [List.getElem?_map,Option.map_eq_some_iff] at c;obtain ⟨a,e,rfl⟩:=c;have:=h j a e;unfold Lib.lowerB
 split
 ·rename_i d
  unfold Lib.isUpperB at d;simp only [Bool.and_eq_true,decide_eq_true_eq,UInt8.le_iff_toNat_le,UInt8.reduceToNat] at d;rw [UInt8.toNat_add];simp only [UInt8.reduceToNat];omega
 ·exact this
theorem Cg {l x y:List UInt8} {f:Bool} (h:fq l=(x,y,f)):∀(j:Nat) (b:UInt8),y[j]? =some b→b.toNat < 128:=by
 unfold fq at h
 split at h
 ·rename_i a
  rw [Bool.and_eq_true] at a;injection h with _ h;injection h with h _;rw [←h];exact vX (qK _ a.2)
 ·injection h with _ h;injection h with h _;rw [←h];intro j b c;simp at c
theorem Hq {c:bX} (h:ij c=true):∀d∈c.doms,d.size≤255∧oM d:=by
 have e:=kg h;unfold ij oq nr kG kI at h;simp only [Bool.and_eq_true,decide_eq_true_eq,List.all_eq_true] at h;obtain ⟨⟨⟨⟨⟨⟨⟨⟨f,g,b⟩,_⟩,_⟩,_⟩,_⟩,_⟩,_⟩,_⟩:=h;exact fun d a=>⟨e.domz d a,qK _ (b d a)⟩
def dM (c:bX) (name:List UInt8):Bool:=(fq name).2.2 && c.doms.any (my (bs (fq name).2.1))
theorem sw (c:bX) (U V W X:Value) (a:List UInt8) (m:Int) (w:World) (h:jZ w c U V W X) (S:ij c=true) (hn:a.length≤1048576) (F:w.cell? ⟨0,0,none⟩=some (.int .i64 m)):
  Calls Tryz.prog 238 #[.agg #[.string c.host,U,V,W,.int .i64 c.most,.int .i64 c.size,X,.int .i64 c.life,.int .i64 c.room],.string (bs a)] w fun e w'=>e= .returned (.bool (dM c a))∧Below w.heap.size w w':=by
 obtain ⟨C,D,Y⟩:=aE h.1;obtain ⟨K,O,Z⟩:=aE h.2.1;obtain ⟨L,P,eU⟩:=aE h.2.2.1;obtain ⟨M,Q,eW⟩:=aE h.2.2.2;subst Y Z eU eW;obtain ⟨n,g⟩:∃n:World,w.alloc (.cells #[.string c.host,.slice C c.doms.length D,.slice K c.nets.length O,.slice L c.users.length P,.int .i64 c.most,.int .i64 c.size,.slice M c.waits.length Q,.int .i64 c.life,.int .i64 c.room] 30)=n:=⟨_,rfl⟩;have t:Below w.heap.size w n:=by rw [←g];exact (Below.refl _ _).alloc (Nat.le_refl _) _
 have I:n.heap[w.heap.size]? =some (.cells #[.string c.host,.slice C c.doms.length D,.slice K c.nets.length O,.slice L c.users.length P,.int .i64 c.most,.int .i64 c.size,.slice M c.waits.length Q,.int .i64 c.life,.int .i64 c.room] 30 (0,0)):=by rw [←g];exact heap_alloc_new w _
 have a0:=aG a;have p:=Lib.hid I;have o:=Lib.hid t;have B:=Lib.hid g;have G:=Lib.hid h.1;have A:=Lib.hid S;have T:n.cell? ⟨0,0,none⟩=some (.int .i64 m):=(t.cell (by exact aC F)).trans F;have H:=Lib.hid (vz (bs a) m n (by omega) T);clear h t I g F S T;go_enter Tryz.func238,Tryz.ntmps238;go_wp2_with fail
 rw [B.out];refine H.out.mono ?_;rintro e l ⟨x,y,f,rfl,R,k⟩;have d:Hid (fq a=(x.data.toList,y.data.toList,f)):=Lib.hid (by rw [←R,aI]);have b:=Lib.hid ((o.out.trans (k.mono o.out.size)));have q:=Lib.hid (ae k p.out);clear R k p H
 cases f with
 | false=>
  have z:Hid (dM c a=false):=Lib.hid (by unfold dM;rw [d.out];rfl);go_wp2_with fail
  go_ret;exact ⟨by rw [z.out];rfl,b.out.alloc b.out.size _⟩
 | true=>
  have z:Hid (dM c a=c.doms.any (my y)):=Lib.hid (by unfold dM;rw [d.out];simp only [Bool.true_and];congr 1);obtain ⟨j,r⟩:∃j:World,l.alloc (.cells #[.string y] 9)=j:=⟨_,rfl⟩;have u:Below l.heap.size l j:=by rw [←r];exact (Below.refl _ _).alloc (Nat.le_refl _) _
  have J:j.heap[l.heap.size]? =some (.cells #[.string y] 9 (0,0)):=by rw [←r];exact heap_alloc_new l _
  have N:j.cell? ⟨l.heap.size,0,none⟩=some (.string y):=by rw [Lib.cell_of_heap J];rfl
  have s:=ae u q.out;have y1:j.cell? ⟨w.heap.size,1,none⟩=some (.slice C c.doms.length D):=by rw [Lib.cell_of_heap s];rfl
  have i:=Lib.hid (b.out.trans (u.mono b.out.size));have v:=Lib.hid (pF c.doms _ l.heap.size y j (G.out.below i.out) N (kg A.out).doms (Hq A.out) (Cg d.out));clear u J N s G A d q;go_wp2_with (first | (go_at_call 265;refine v.out.mono ?_;rintro e w9 ⟨rfl,E⟩) | fail)
  go_ret;exact ⟨by rw [z.out];rfl,i.out.trans (E.mono i.out.size)⟩
theorem pv {P:Program} {t e:TypeId} {i:TypeInfo} {z:Value} {a:Nat} (F:P.underlying t=some (.slice e)) (E:P.info? e=some i) (H:i.zero=some z) (f:i.size=1) (r:i.bytes=a) (s:z.cells.size=1)
  (w W:World) (v x:Value) (n:Nat) (o:List Value) (l:w.ownsRow 0 e 1 v n o) (G:x.oneCell'=true) (q:Below w.heap.size w W) (D:W.heap[w.heap.size]? =some (.cells #[x] e (0,0))) (p:n+1≤maxLen) (c:(n+1) * a≤140737488355328):
  ∃g b m,(Builtin.append_ #[t,t] t #[v,.slice (some ⟨w.heap.size,0,none⟩) 1 1]).run P W= .ok (.slice (some ⟨g,0,none⟩) (n+1) b) m∧m.ownsRow 0 e 1 (.slice (some ⟨g,0,none⟩) (n+1) b) (n+1) (o++[x])∧aH (fun k=>v.ownBlock=some k) w m∧(v.ownBlock=some g∨w.heap.size≤g):=by
 have d:W.ownsRow 0 e 1 v n o:=aA l fun g A e _=>ae q e;obtain ⟨g,b,m,B,C,h⟩:=gC (P:=P) W t t 0 e i z 1 a F E H f r s (by decide) v n o d ⟨w.heap.size,0,none⟩ 1 1 [x] rfl (World.news_of_block (cs:=#[x]) (t:=e) (fr:=(0,0)) D) (by intro u y;simp at y;rw [y];exact G) (by decide) p c (Nat.zero_le _);refine ⟨g,b,m,B,C,?_,?_⟩
 ·refine (aH.below q:aH (fun k=>v.ownBlock=some k) w W).trans (A1:=fun k=>v.ownBlock=some k) ?_ (fun k _ e=>e)
  rcases h with ⟨j,h⟩ | ⟨_,h⟩
  ·exact (aH.grown h).mono fun k _ e=>j.trans e
  ·exact (aH.grown h).mono fun k _ e=>by cases e
 ·rcases h with ⟨j,_⟩ | ⟨j,_⟩
  ·exact .inl j
  ·exact .inr (by rw [j];exact q.size)
structure si (w:World) (tb:Nat) (vt vb:Value) (frm:List UInt8) (tos:List (List UInt8)):Prop where
 blk:w.heap[tb]? =some (.cells #[.string (bs frm),vt,vb] 216 (0,0))
 row:w.ownsRow 0 9 1 vt tos.length (aB tos)
theorem si.cell {w:World} {c:Nat} {e d:Value} {a:List UInt8} {b:List (List UInt8)} (h:si w c e d a b) (j:Nat):w.cell? ⟨c,j,none⟩=(#[Value.string (bs a),e,d]:Array Value)[j]? :=by rw [Lib.cell_of_heap h.blk]
theorem dm {w:World} {c j n g:Nat} {e:TypeId} {v:Value} {k:List Value} (h:w.ownsRow c e j v n k) (b:v.ownBlock=some g):∃a,w.heap[g]? =some (.cells a e (0,0)):=by
 rcases h.2 with ⟨d,_⟩ | ⟨l,f,a,d,_,i,_⟩
 ·rw [d] at b;cases b
 ·rw [d] at b;injection b with b;subst b;exact ⟨a,i⟩
theorem bC {A:Nat→Prop} {w i:World} {a f n:Nat} {e:TypeId} {v:Value} {j:List Value} (h:w.ownsRow a e f v n j) (m:aH A w i) (o:∀g,v.ownBlock=some g→¬A g):i.ownsRow a e f v n j:=by
 refine ⟨h.1,?_⟩
 rcases h.2 with h | ⟨g,b,c,d,k,l,r⟩
 ·exact .inl h
 ·exact .inr ⟨g,b,c,d,k,m.some_ l (o g (by rw [d];rfl)),r⟩
theorem si.far {w:World} {d:Nat} {f i:Value} {a:List UInt8} {b:List (List UInt8)} (h:si w d f i a b):f.ownBlock≠some d:=fun e=>by
 obtain ⟨g,c⟩:=dm h.row e;rw [h.blk] at c;simp at c
theorem si.chg {A:Nat→Prop} {w i:World} {c:Nat} {d f:Value} {a:List UInt8} {b:List (List UInt8)} (h:si w c d f a b) (e:aH A w i) (j:¬A c) (k:∀g,d.ownBlock=some g→¬A g):si i c d f a b:=⟨e.some_ h.blk j,bC h.row e k⟩
theorem ko.below {w i:World} {b:Nat} {c:bX} {d e f g:Value} (h:ko w b c d e f g) (a:Below w.heap.size w i):ko i b c d e f g:=by
 obtain ⟨A,j,k⟩:=h.blk;exact ⟨⟨A,ae a j,k⟩,h.rows.below a,h.may⟩
theorem bT.chg {A:Nat→Prop} {w d:World} {sb a:Nat} {C:Array Value} {c:List (List UInt8)} (h:bT w sb a C c) (b:aH A w d) (e:¬A sb) (f:¬A a):bT d sb a C c:=by
 obtain ⟨s,r,g⟩:=h.chan;exact ⟨b.some_ h.blk e,h.size,h.told,s,r,b.some_ g f⟩
theorem wU (sb l j:Nat) (C:Array Value) (c:bX) (v x y z:Value) (f b:Bool) (d:List UInt8) (m:Int) (w:World) (h:bT w sb l C []) (a:ko w j c v x y z) (r:C[0]? =some (.pointer (some ⟨j,0,none⟩))) (s:C[4]? =some (.bool f)) (t:C[6]? =some (.bool b)) (u:d.length≤1048576) (i:w.cell? ⟨0,0,none⟩=some (.int .i64 m)):
  Calls Tryz.prog 202 #[.pointer (some ⟨sb,0,none⟩),.string (bs d)] w fun e A=>e= .returned (.bool (f || b || dM c d))∧Below w.heap.size w A:=by
 have P:=(h.cell 0).trans r;have Q:=(h.cell 4).trans s;have R:=(h.cell 6).trans t;obtain ⟨L,S,n⟩:=aE a.rows.1;obtain ⟨M,T,o⟩:=aE a.rows.2.1;obtain ⟨N,U,p⟩:=aE a.rows.2.2.1;obtain ⟨O,V,q⟩:=aE a.rows.2.2.2;subst n o p q;have B:=a.cell 0 (by decide);have D:=a.cell 1 (by decide);have E:=a.cell 2 (by decide);have F:=a.cell 3 (by decide);have G:=a.cell 4 (by decide);have H:=a.cell 5 (by decide);have I:=a.cell 6 (by decide);have J:=a.cell 7 (by decide);have K:=a.cell 8 (by decide);simp only [List.getElem?_cons_zero,List.getElem?_cons_succ] at B D E F G H I J K;have k:=Lib.hid (sw c _ _ _ _ d m w a.rows a.may u i);clear h a i
 cases f with
 | true=>
  go_enter Tryz.func202,Tryz.ntmps202;go_wp2_with fail
  go_ret;exact ⟨rfl,Below.refl _ _⟩
 | false=>
  cases b with
  | true=>
   go_enter Tryz.func202,Tryz.ntmps202;go_wp2_with fail
   go_ret;exact ⟨rfl,Below.refl _ _⟩
  | false=>
   go_enter Tryz.func202,Tryz.ntmps202;go_wp2_with (first | (go_at_call 238;refine k.out.mono ?_;rintro e W ⟨rfl,g⟩) | fail)
   go_ret;exact ⟨rfl,g⟩
def cY (tos:List (List UInt8)) (most:Int) (may:Bool) (name:List UInt8):List (List UInt8):=
 if tos.contains name then tos else if (tos.length:Int)=most then tos else if may then tos++[name] else tos
def b9 (tos:List (List UInt8)) (most:Int) (may:Bool) (name:List UInt8):List UInt8:=
 if tos.contains name then [50,53,48,32,111,107,13,10] else if (tos.length:Int)=most then [52,53,50,32,109,97,110,121,13,10] else if may then [50,53,48,32,111,107,13,10] else [53,53,48,32,110,111,13,10]
theorem zT (sb H pp q:Nat) (C:Array Value) (c:bX) (vD vN vU vW vt vb:Value) (j f:Bool) (S a:List UInt8) (d:List (List UInt8)) (m:Int) (w:World) (h:bT w sb H C []) (hc:ko w pp c vD vN vU vW) (N:si w q vt vb S d) (h0:C[0]? =some (.pointer (some ⟨pp,0,none⟩))) (h4:C[4]? =some (.bool j)) (h6:C[6]? =some (.bool f)) (h8:C[8]? =some (.pointer (some ⟨q,0,none⟩))) (hn:a.length≤1048576) (hl:d.length≤10) (hm:w.cell? ⟨0,0,none⟩=some (.int .i64 m)):
  Calls Tryz.prog 148 #[.pointer (some ⟨sb,0,none⟩),.string (bs a)] w fun e w'=>e= .returned (.tuple #[])∧bT w' sb H C [b9 d c.most (j || f || dM c a) a]∧∃a7,si w' q a7 vb S (cY d c.most (j || f || dM c a) a)∧aH (fun k=>k=H∨k=q∨vt.ownBlock=some k) w w'∧∀k,a7.ownBlock=some k→vt.ownBlock=some k∨w.heap.size≤k:=by
 have c0:=(h.cell 0).trans h0;have c8:=(h.cell 8).trans h8;have t1:w.cell? ⟨q,1,none⟩=some vt:=N.cell 1;have y4:=hc.cell 4 (by decide);simp only [List.getElem?_cons_zero,List.getElem?_cons_succ] at y4;have A:=aF N.row;obtain ⟨av,cv,ev⟩:=aE A;subst ev;have O:Hid (∀W:World,Below w.heap.size w W→Calls Tryz.prog 202 #[.pointer (some ⟨sb,0,none⟩),.string (bs a)] W fun e w'=>e= .returned (.bool (j || f || dM c a))∧Below W.heap.size W w'):=Lib.hid (fun W hb=>wU sb H pp C c vD vN vU vW j f a m W (h.below hb) (hc.below hb) h0 h4 h6 hn ((hb.cell (aC hm)).trans hm));have v:=Lib.hid (mw d a _ w A (by omega));have D:H≠q:=fun e=>by obtain ⟨s,r,L⟩:=h.chan;rw [e,N.blk] at L;simp at L
 have J:∀g,(Value.slice av d.length cv).ownBlock=some g→H≠g:=fun g U e=>by
  obtain ⟨s,r,L⟩:=h.chan;obtain ⟨R,h1⟩:=dm N.row U;rw [e,h1] at L;simp at L
 have b7:=Lib.hid (h.tell (by simp) [50,53,48,32,111,107] (by decide));have HH:=Lib.hid h;have HT:=Lib.hid N;have G:=Lib.hid J
 cases l:d.contains a with
 | true=>
  rw [l] at v;have X:Hid (b9 d c.most (j || f || dM c a) a=[50,53,48,32,111,107,13,10]):=Lib.hid (by unfold b9;rw [l];rfl);have Y:Hid (cY d c.most (j || f || dM c a) a=d):=Lib.hid (by unfold cY;rw [l];rfl);rw [X.out,Y.out];clear h hc N A hm l J;go_enter Tryz.func148,Tryz.ntmps148;go_wp2_with fail
  refine v.out.mono ?_;rintro e K ⟨rfl,rfl⟩;go_wp2_with fail
  refine b7.out.mono ?_;rintro e E ⟨rfl,F,z⟩;go_wp2_with fail
  refine bodyPost_end (results_none rfl _ _ _) rfl ?_;exact ⟨rfl,F,_,HT.out.chg (aH.same z) (fun e=>D e.symm) (fun g U e=>G.out g U e.symm),(aH.same z).mono (fun _ _ e=> .inl e),fun k e=> .inl e⟩
 | false=>
  rw [l] at v
  by_cases p:(d.length:Int)=c.most
  ·have X:Hid (b9 d c.most (j || f || dM c a) a=[52,53,50,32,109,97,110,121,13,10]):=Lib.hid (by unfold b9;rw [l,if_pos p];rfl);have Y:Hid (cY d c.most (j || f || dM c a) a=d):=Lib.hid (by unfold cY;rw [l,if_pos p];rfl);rw [X.out,Y.out];have c3:((d.length:Int) == c.most)=true:=by rw [beq_iff_eq];exact p
   clear h hc N A hm l J p O;go_enter Tryz.func148,Tryz.ntmps148;go_wp2_with fail
   refine v.out.mono ?_;rintro e K ⟨rfl,rfl⟩;go_wp2_with fail
   go_quiet (fail)
   have n:=bA nq w w.heap.size;obtain ⟨K,B⟩:∃K,w.drewN nq=K:=⟨_,rfl⟩;rw [B] at n ⊢;have b6:=Lib.hid ((HH.out.below n).tell (by simp) [52,53,50,32,109,97,110,121] (by decide));have K1:aH (fun _=>False) w K:=aH.below n;have a1:=Lib.hid K1;clear n B K1;go_wp2_with fail
   refine b6.out.mono ?_;rintro e E ⟨rfl,F,z⟩;go_wp2_with fail
   refine bodyPost_end (results_none rfl _ _ _) rfl ?_;exact ⟨rfl,F,_,(HT.out.chg a1.out (fun e=>e) (fun _ _ e=>e)).chg (aH.same z) (fun e=>D e.symm) (fun g U e=>G.out g U e.symm),(a1.out.mono (fun _ _ e=>e.elim)).trans (aH.same z) (fun _ _ e=> .inl e),fun k e=> .inl e⟩
  ·have c3:((d.length:Int) == c.most)=false:=by rw [beq_eq_false_iff_ne];exact p
   have X:Hid (∀b:Bool,b9 d c.most b a=if b then [50,53,48,32,111,107,13,10] else [53,53,48,32,110,111,13,10]):=Lib.hid (fun b=>by unfold b9;rw [l,if_neg p];rfl);have Y:Hid (∀b:Bool,cY d c.most b a=if b then d++[a] else d):=Lib.hid (fun b=>by unfold cY;rw [l,if_neg p];rfl);obtain ⟨c7,M⟩:∃b,(j || f || dM c a)=b:=⟨_,rfl⟩;rw [M] at O ⊢;rw [X.out,Y.out];clear h hc N A hm l J p M X Y;go_enter Tryz.func148,Tryz.ntmps148;go_wp2_with fail
   refine v.out.mono ?_;rintro e K ⟨rfl,rfl⟩;go_wp2_with fail
   go_quiet (fail)
   have n:=bA nq w w.heap.size;have T:=O.out _ n;obtain ⟨K,B⟩:∃K,w.drewN nq=K:=⟨_,rfl⟩;rw [B] at n T ⊢;have b0:=Lib.hid T;have a0:=Lib.hid n;clear B n T;go_wp2_with fail
   refine b0.out.mono ?_;rintro e E ⟨rfl,t⟩;replace t:=a0.out.trans (t.mono a0.out.size);have K2:aH (fun _=>False) w E:=aH.below t;have F:=HH.out.below t;have x:=HT.out.chg K2 (fun e=>e) (fun _ _ e=>e)
   cases c7 with
   | false=>
    have Q:=Lib.hid (F.tell (by simp) [53,53,48,32,110,111] (by decide));have b2:=Lib.hid x;have a8:=Lib.hid K2;clear F x t K2;go_wp2_with fail
    refine Q.out.mono ?_;rintro e w3 ⟨rfl,h3,a2⟩;go_wp2_with fail
    refine bodyPost_end (results_none rfl _ _ _) rfl ?_;exact ⟨rfl,h3,_,b2.out.chg (aH.same a2) (fun e=>D e.symm) (fun g U e=>G.out g U e.symm),(a8.out.mono (fun _ _ e=>e.elim)).trans (aH.same a2) (fun _ _ e=> .inl e),fun k e=> .inl e⟩
   | true=>
    have d1:E.cell? ⟨q,1,none⟩=some (.slice av d.length cv):=x.cell 1;have e1:∀o:Obj,(E.alloc o).cell? ⟨q,1,none⟩=some (.slice av d.length cv):=fun o=>by rw [Lib.cell_of_heap ((((Below.refl E.heap.size E).alloc (Nat.le_refl _) o).block q (ah x.blk)).trans x.blk)];rfl
    obtain ⟨i,hi,c4,c5,c6⟩:=info_parts uk;obtain ⟨g,y,W4,a5,I,K4,c2⟩:=pv (P:=Tryz.prog) Tryz.underlying25 hi c4 c5 c6 rfl E (E.alloc (.cells #[.string (bs a)] 9)) _ (.string (bs a)) d.length (aB d) x.row rfl ((Below.refl _ _).alloc (Nat.le_refl _) _) (heap_alloc_new E _) (by unfold maxLen;omega) (by omega);have b4:=K4.some_ x.blk (x.far);have d4:W4.cell? ⟨q,1,none⟩=some (.slice av d.length cv):=by rw [Lib.cell_of_heap b4];rfl
    have f4:=Lib.frozen_of_heap b4 1;have Z:aL q W4 (W4.setCell ⟨q,1,none⟩ (.slice (some ⟨g,0,none⟩) (d.length+1) y)):=(aL.refl _ _).setCell _;have b5:=heap_setCell_same W4 q 1 _ _ (.slice (some ⟨g,0,none⟩) (d.length+1) y) b4;obtain ⟨W5,c1⟩:∃W5:World,W4.setCell ⟨q,1,none⟩ (.slice (some ⟨g,0,none⟩) (d.length+1) y)=W5:=⟨_,rfl⟩;rw [c1] at Z b5
    have a6:q≠g:=fun e=>by
     obtain ⟨R,V⟩:=dm I (g:=g) rfl;rw [←e,b4] at V;simp at V
    have T5:si W5 q (.slice (some ⟨g,0,none⟩) (d.length+1) y) vb S (d++[a]):=⟨b5,by
     have:=bC I (aH.same Z) (fun k u e=>a6 (by injection u with u;exact e.symm.trans u.symm));rw [List.length_append]
     simpa [aB] using this⟩
    have h5:=(F.chg K4 (fun e=>by
     obtain ⟨R,V⟩:=dm x.row e;rw [F.blk] at V
     simp at V) (fun e=>G.out H e rfl)).same Z (fun e=>by have:=F.blk;rw [e,x.blk] at this;simp at this) D
    have Q:=Lib.hid (h5.tell (by simp) [50,53,48,32,111,107] (by decide));have K5:aH (fun k=>k=H∨k=q∨(Value.slice av d.length cv).ownBlock=some k) w W5:=((K2.mono (fun _ _ e=>e.elim)).trans K4 (fun k _ e=> .inr (.inr e))).trans (aH.same Z) (fun k _ e=> .inr (.inl e))
    have a4:H≠g:=fun e=>by
     obtain ⟨s,r,L⟩:=h5.chan;obtain ⟨R,V⟩:=dm I (g:=g) rfl;rw [e,Z.2 g (fun e=>a6 e.symm),V] at L;simp at L
    have b3:=Lib.hid T5;have a9:=Lib.hid K5;have b1:=Lib.hid a5;have c9:w.heap.size≤E.heap.size:=t.size;clear F x t K2 b4 b5 Z T5 h5 K5 K4 I a5
    go_wp2_with (first
     | (at_builtin;refine bB rfl _ _ 25 rfl _ _ (.slice (some ⟨g,0,none⟩) (d.length+1) y) W4 rfl rfl b1.out ?_)
     | fail)
    refine Q.out.mono ?_;rintro e w6 ⟨rfl,b8,a3⟩;go_wp2_with fail
    refine bodyPost_end (results_none rfl _ _ _) rfl ?_;exact ⟨rfl,b8,_,b3.out.chg (aH.same a3) (fun e=>D e.symm) (fun k u e=>a4 (by injection u with u;exact e.symm.trans u.symm)),a9.out.trans (aH.same a3) (fun _ _ e=> .inl e),fun k u=>c2.elim (fun e=> .inl (by injection u with u;exact e.trans (congrArg some u))) (fun e=> .inr (by injection u with u;have u:g=k:=u;omega))⟩
def tw (w:World):Prop:=Lib.TabIs Tryz.prog w "internal/strconv.uint64pow10" .u64 Lib.pow10Tab
theorem yb:Tryz.prog.globalNamed "internal/strconv.uint64pow10"=some 6:=by kernel_rfl
theorem tw.block {w a:World} (h:tw w) (e:a.heap[6]? =w.heap[6]?):tw a:=by
 unfold tw Lib.TabIs World.var? at h ⊢;rw [yb] at h ⊢;simp only [Option.bind_some] at h ⊢;rw [e];exact h
theorem tw.lt {w:World} (h:tw w):6 < w.heap.size:=by
 unfold tw Lib.TabIs World.var? at h;rw [yb] at h;simp only [Option.bind_some] at h
 rcases hh:w.heap[6]? with _ | o
 ·rw [hh] at h;simp at h
 ·exact ah hh
theorem tw.below {w a:World} (h:tw w) (b:Below w.heap.size w a):tw a:=h.block (b.block _ h.lt)
theorem tw.chg {A:Nat→Prop} {w a:World} (h:tw w) (b:aH A w a) (c:¬A 6):tw a:=h.block (b.block _ h.lt c)
theorem tw.same {b:Nat} {w a:World} (h:tw w) (d:aL b w a) (c:b≠6):tw a:=h.block (d.2 _ (Ne.symm c))
theorem EC (w:World) (k:Nat) (a:Array Obj):Below w.heap.size w (Sort.grow (w.drewN k) a):=by
 have h:=bA k w w.heap.size;refine ⟨h.os,h.tape,h.output,?_,fun j b=>?_⟩
 ·show w.heap.size≤((w.drewN k).heap++a).size;rw [Array.size_append];have:=h.size;omega
 ·show ((w.drewN k).heap++a)[j]? =_;rw [Array.getElem?_append_left (Nat.lt_of_lt_of_le b h.size)];exact h.block j b
theorem AP (n:Int) (b: -9223372036854775808≤n) (c:n≤9223372036854775807) (w:World) (d:tw w):
  Calls Tryz.prog 196 #[.int .i64 n] w fun e a=>e= .returned (.string (bs (Lib.itoa n)))∧Below w.heap.size w a:=by
 refine (Tryz.strconv_Itoa n b c w d).mono ?_;rintro e a ⟨rfl,k,f,rfl⟩;exact ⟨rfl,EC w k f⟩
theorem kZ (n:Nat):∀k,n < 10 ^ (k+1)→(Lib.decDigits n).length≤k+1:=by
 induction n using Nat.strongRecOn with
 | ind n ih=>
  intro k a;rw [Lib.decDigits]
  split
  ·simp
  ·rename_i h
   cases k with
   | zero=>omega
   | succ k=>
    have:=ih (n / 10) (by omega) k (by rw [Nat.pow_succ] at a;omega);simp;omega
theorem wE (sb l i:Nat) (C:Array Value) (b:List UInt8) (a:Int) (w:World) (h:bT w sb l C []) (M:C[0]? =some (.pointer (some ⟨i,0,none⟩))) (X:w.cell? ⟨i,0,none⟩=some (.string (bs b))) (J:w.cell? ⟨i,5,none⟩=some (.int .i64 a)) (p:i≠sb) (H:i≠l) (hl:b.length≤255) (P:tw w) (I:sb≠6) (G:l≠6) (a0:0≤a) (a1:a≤1000):
  Calls Tryz.prog 145 #[.pointer (some ⟨sb,0,none⟩)] w fun e Q=>e= .returned (.tuple #[])∧bT Q sb l ((C.setIfInBounds 5 (.bool true)).setIfInBounds 8 (.pointer none)) [[50,53,48,45]++b++[13,10],[50,53,48,45,83,73,90,69,32]++Lib.itoa a++[13,10],[50,53,48,32,65,85,84,72,32,80,76,65,73,78,13,10]]∧aH (fun k=>k=sb∨k=l) w Q:=by
 have hz:=h.size;obtain ⟨v5,K⟩:∃q,C[5]? =some q:=⟨_,Array.getElem?_eq_getElem (by omega)⟩;have c5:=(h.cell 5).trans K;have f5:=h.frozen 5;have c0:=(h.cell 0).trans M;have A:aL sb w (w.setCell ⟨sb,5,none⟩ (.bool true)):=(aL.refl _ _).setCell _;have Y:(w.setCell ⟨sb,5,none⟩ (.bool true)).cell? ⟨i,0,none⟩=some (.string (bs b)):=(A.cell p).trans X;have L:=h.set 5 (by decide) (.bool true);have o:=P.same A I;have V:=Lib.hid (L.tell (by simp) ([50,53,48,45]++b) (by rw [List.length_append];simp;omega));have g:(⟨#[50,53,48,45]⟩:ByteArray)++bs b=bs ([50,53,48,45]++b):=cE [50,53,48,45] b;have c:(⟨#[50,53,48,45,83,73,90,69,32]⟩:ByteArray)++bs (Lib.itoa a)=bs ([50,53,48,45,83,73,90,69,32]++Lib.itoa a):=cE [50,53,48,45,83,73,90,69,32] _
 have Z:(Lib.itoa a).length≤4:=by
  unfold Lib.itoa;rw [if_neg (by omega)];exact kZ _ 3 (by omega)
 have T:=Lib.hid g;have r:=Lib.hid c;have O:=aG b;have a2:=aG (Lib.itoa a);have B:(C.setIfInBounds 5 (.bool true))[0]? =some (.pointer (some ⟨i,0,none⟩)):=by rw [Array.getElem?_setIfInBounds_ne (by decide)];exact M
 have U:Hid (tw (w.setCell ⟨sb,5,none⟩ (.bool true))):=Lib.hid o;have m:=Lib.hid A;clear h L g c P o;go_enter_defers Tryz.func145,Tryz.ntmps145
 go_wp2_with fail
 rw [T.out];refine V.out.mono ?_;rintro e R ⟨rfl,D,d⟩;have d0:=(D.cell 0).trans B;have d5:R.cell? ⟨i,5,none⟩=some (.int .i64 a):=(d.cell H).trans ((m.out.cell p).trans J);have u:Hid (tw R):=Lib.hid (U.out.same d G);have t:=Lib.hid D;have v:=Lib.hid d;clear D d;go_wp2_with fail
 refine (AP a (by omega) (by omega) _ u.out).mono ?_;rintro e w2 ⟨rfl,j⟩;have y:=Lib.hid ((t.out.below j).tell (by simp) ([50,53,48,45,83,73,90,69,32]++Lib.itoa a) (by rw [List.length_append];simp;omega));have s:=Lib.hid j;clear j;go_wp2_with fail
 rw [r.out];refine y.out.mono ?_;rintro e w3 ⟨rfl,N,n⟩;have z:=Lib.hid (N.tell (by simp) [50,53,48,32,65,85,84,72,32,80,76,65,73,78] (by decide));have x:=Lib.hid n;clear N n;go_wp2_with fail
 refine z.out.mono ?_;rintro e S ⟨rfl,E,F⟩;obtain ⟨q,hv⟩:∃q,(C.setIfInBounds 5 (.bool true))[8]? =some q:=⟨_,Array.getElem?_eq_getElem (by simp;omega)⟩;have W:aL sb S (S.setCell ⟨sb,8,none⟩ (.pointer none)):=(aL.refl _ _).setCell _;go_wp2_with fail
 refine leaves_cons (f:=194) (args:=#[.pointer (some ⟨sb,0,none⟩)]) (by simp) (by simp [go_sem]) ?_;refine (oa sb q .returning _ ((E.cell 8).trans hv) (E.frozen 8)).mono ?_;rintro e u' a3 ⟨rfl,rfl,rfl⟩;refine ⟨_,results_none rfl _ _ _,rfl,by simpa using E.set 8 (by decide) (.pointer none),?_⟩
 exact (((((aH.same m.out).mono (fun _ _ e=> .inl e):aH (fun k=>k=sb∨k=l) w _).trans (aH.same v.out) (fun _ _ e=> .inr e)).trans (aH.below s.out:aH (fun _=>False) _ _) (fun k _ e=>e.elim)).trans (aH.same x.out) (fun _ _ e=> .inr e) |>.trans (aH.same F) (fun _ _ e=> .inr e)).trans (aH.same W) (fun _ _ e=> .inl e)
structure mK where
 frm:List UInt8
 tos:List (List UInt8)
 body:Option dW
structure bG where
 nets:Bool
 greeted:Bool
 known:Bool
 over:Bool
 wait:List UInt8
 tx:Option mK
def rm (w:World) (A:Nat→Prop) (vb:Value):Option dW→Prop
 | none=>vb= .pointer none
 | some b=>∃bb vy,vb= .pointer (some ⟨bb,0,none⟩)∧A bb∧gl w bb vy b∧∀g,vy.ownBlock=some g→A g
def oh (w:World) (A:Nat→Prop) (vx:Value):Option mK→Prop
 | none=>vx= .pointer none
 | some t=>∃tb vt vb,vx= .pointer (some ⟨tb,0,none⟩)∧A tb∧si w tb vt vb t.frm t.tos∧(∀g,vt.ownBlock=some g→A g)∧rm w A vb t.body
def iq (pp pb ch:Nat) (vw vx:Value) (s:bG):Array Value:=#[.pointer (some ⟨pp,0,none⟩),.pointer (some ⟨pb,0,none⟩),vw,.chan (some ch),.bool s.nets,.bool s.greeted,.bool s.known,.bool s.over,vx]
structure cI (w:World) (A:Nat→Prop) (pp pb sb ch:Nat) (vw:Value) (ls:List (List UInt8)) (s:bG):Prop where
 ex:∃vx,bT w sb ch (iq pp pb ch vw vx s) ls∧oh w A vx s.tx
 asb:A sb
 ach:A ch
 lt:∀k,A k→k < w.heap.size
def zF (t:TypeId):Prop:=t=216∨t=9∨t=253∨t=5
section
variable {w w':World} {A A' B:Nat→Prop} {pp pb sb ch:Nat} {vw vx vb:Value} {ls:List (List UInt8)} {s:bG}
theorem rm.off {o:Option dW} (h:rm w A vb o) (n:aH B w w') (i:∀k C t z,A k→w.heap[k]? =some (.cells C t z)→zF t→¬B k):rm w' A vb o:=by
 cases o with
 | none=>exact h
 | some b=>
  obtain ⟨d,p,e,a,c,f⟩:=h
  exact ⟨d,p,e,a,c.chg n (i d _ _ _ a c.blk (.inr (.inr (.inl rfl)))) (fun g j=>by
   obtain ⟨l,z,m⟩:=gB c.row j
   exact i g _ _ _ (f g j) m (.inr (.inr (.inr rfl)))),f⟩
theorem oh.off {o:Option mK} (h:oh w A vx o) (f:aH B w w') (c:∀k C t z,A k→w.heap[k]? =some (.cells C t z)→zF t→¬B k):oh w' A vx o:=by
 cases o with
 | none=>exact h
 | some t=>
  obtain ⟨j,p,vb,e,a,b,d,m⟩:=h
  exact ⟨j,p,vb,e,a,b.chg f (c j _ _ _ a b.blk (.inl rfl)) (fun g i=>by
   obtain ⟨l,n⟩:=dm b.row i
   exact c g _ _ _ (d g i) n (.inr (.inl rfl))),d,m.off f c⟩
theorem rm.mono {o:Option dW} (h:rm w A vb o) (c:∀k,A k→A' k):rm w A' vb o:=by
 cases o with
 | none=>exact h
 | some b=>
  obtain ⟨d,l,e,a,f,i⟩:=h;exact ⟨d,l,e,c _ a,f,fun g j=>c _ (i g j)⟩
theorem oh.mono {o:Option mK} (h:oh w A vx o) (b:∀k,A k→A' k):oh w A' vx o:=by
 cases o with
 | none=>exact h
 | some t=>
  obtain ⟨j,l,vb,e,a,c,d,f⟩:=h;exact ⟨j,l,vb,e,b _ a,c,fun g i=>b _ (d g i),f.mono b⟩
theorem cI.chg (h:cI w A pp pb sb ch vw ls s) (c:aH B w w') (b:∀k,A k→¬B k):cI w' A pp pb sb ch vw ls s:=by
 obtain ⟨vx,d,e⟩:=h.ex;exact ⟨⟨vx,d.chg c (b _ h.asb) (b _ h.ach),e.off c (fun k _ _ _ a _ _=>b k a)⟩,h.asb,h.ach,fun k f=>Nat.lt_of_lt_of_le (h.lt k f) c.size⟩
theorem cI.below (h:cI w A pp pb sb ch vw ls s) (a:Below w.heap.size w w'):cI w' A pp pb sb ch vw ls s:=h.chg (aH.below a:aH (fun _=>False) w w') (fun _ _ e=>e)
theorem tg {C:Array Value} (h:bT w sb ch C ls):∀k D t z,w.heap[k]? =some (.cells D t z)→zF t→¬(k=sb∨k=ch):=by
 rintro k D t z e b (rfl | rfl)
 ·rw [h.blk] at e;injection e with e;injection e with _ e _;subst e
  revert b
  unfold zF;decide
 ·obtain ⟨s,r,a⟩:=h.chan;rw [a] at e
  cases e
theorem cI.back (h:cI w A pp pb sb ch vw ls s) {a:Value} {b:List (List UInt8)} {c:bG} (e:bT w' sb ch (iq pp pb ch vw a c) b) (g:oh w' A' a c.tx) (d:∀k,A k→A' k) (f:∀k,A' k→k < w'.heap.size):cI w' A' pp pb sb ch vw b c:=
 ⟨⟨a,e,g⟩,d _ h.asb,d _ h.ach,f⟩
end
theorem cI.tell {w:World} {A:Nat→Prop} {pp pb sb ch:Nat} {vw:Value} {ls:List (List UInt8)} {s:bG} (h:cI w A pp pb sb ch vw ls s) (j:ls.length < 3) (l:List UInt8) (n:l.length≤1048576):
  Calls Tryz.prog 62 #[.pointer (some ⟨sb,0,none⟩),.string (bs l)] w fun e w'=>e= .returned (.tuple #[])∧cI w' A pp pb sb ch vw (ls++[l++[13,10]]) s∧aH A w w':=by
 obtain ⟨vx,b,d⟩:=h.ex;refine (b.tell j l n).mono ?_;rintro e w' ⟨rfl,f,g⟩;have a:aH (fun k=>k=ch) w w':=aH.same g;refine ⟨rfl,⟨⟨vx,f,d.off a (fun k C t z _ e m c=>tg b k C t z e m (.inr c))⟩,h.asb,h.ach,fun k i=>Nat.lt_of_lt_of_le (h.lt k i) a.size⟩,a.mono (fun k _ e=>by rw [e];exact h.ach)⟩
theorem bg.chg {A:Nat→Prop} {w w':World} {v:Value} {n o:Nat} {f:List Value} (h:bg w v n o f) (q:aH A w w') (t:∀g,v.ownBlock=some g→¬A g):bg w' v n o f:=by
 refine ⟨h.1,?_⟩
 rcases h.2 with p | ⟨b,m,d,e,k,a⟩
 ·exact .inl p
 ·refine .inr ⟨b,m,d,e,k,fun j r=>?_⟩;have i:=a j r
  have l:b < w.heap.size:=by
   rcases hv:f[j]? with _ | x
   ·have:=h.1;rw [List.getElem?_eq_none_iff] at hv;omega
   ·rw [hv] at i;exact aC i
  rw [←i];exact World.cell?_of_block (q.block b l (t b (by rw [e];rfl)))
theorem JC {A:Nat→Prop} {w w':World} {g h:Nat} (a:Lib.Utf8Tabs g h w) (b:aH A w w') (j:g < w.heap.size) (l:h < w.heap.size) (n:¬A g) (p:¬A h):Lib.Utf8Tabs g h w':=by
 have m:∀o,w'.cell? ⟨g,o,none⟩=w.cell? ⟨g,o,none⟩:=fun o=>World.cell?_of_block (b.block _ j n);have e:∀o,w'.cell? ⟨h,o,none⟩=w.cell? ⟨h,o,none⟩:=fun o=>World.cell?_of_block (b.block _ l p);exact ⟨fun k f=>(m k).trans (a.1 k f),fun i d=>⟨(e _).trans (a.2 i d).1,(e _).trans (a.2 i d).2⟩⟩
structure gg (E:Nat→Prop) (w:World) (pp:Nat) (c:bX):Prop where
 set:∃vD vN vU vW,ko w pp c vD vN vU vW∧∀k,(vD.ownBlock=some k∨vN.ownBlock=some k∨vU.ownBlock=some k∨vW.ownBlock=some k)→E k
 epp:E pp
 len:∃n,w.cell? ⟨0,0,none⟩=some (.int .i64 n)
 elen:E 0
 pow:tw w
 epow:E 6
 utf:Lib.Utf8Tabs 2 3 w
 efir:E 2
 eacc:E 3
 lt:∀k,E k→k < w.heap.size
section
variable {E A:Nat→Prop} {w w':World} {pp:Nat} {c:bX}
theorem gg.chg (h:gg E w pp c) (b:aH A w w') (a:∀k,E k→¬A k):gg E w' pp c:=by
 obtain ⟨o,p,q,r,d,f⟩:=h.set;obtain ⟨D,i,j⟩:=d.blk;obtain ⟨n,m⟩:=h.len;refine ⟨⟨o,p,q,r,⟨⟨D,b.some_ i (a _ h.epp),j⟩,⟨d.rows.1.chg b (fun g e=>a g (f g (.inl e))),d.rows.2.1.chg b (fun g e=>a g (f g (.inr (.inl e)))),d.rows.2.2.1.chg b (fun g e=>a g (f g (.inr (.inr (.inl e))))),d.rows.2.2.2.chg b (fun g e=>a g (f g (.inr (.inr (.inr e)))))⟩,d.may⟩,f⟩,h.epp,⟨n,?_⟩,h.elen,h.pow.chg b (a _ h.epow),h.epow,JC h.utf b (h.lt _ h.efir) (h.lt _ h.eacc) (a _ h.efir) (a _ h.eacc),h.efir,h.eacc,fun k l=>Nat.lt_of_lt_of_le (h.lt k l) b.size⟩;rw [←m];exact World.cell?_of_block (b.block _ (h.lt _ h.elen) (a _ h.elen))
theorem gg.below (h:gg E w pp c) (a:Below w.heap.size w w'):gg E w' pp c:=h.chg (aH.below a:aH (fun _=>False) w w') (fun _ _ e=>e)
theorem gg.may (h:gg E w pp c):ij c=true:=by
 obtain ⟨_,_,_,_,a,_⟩:=h.set;exact a.may
end
structure og where
 verb:Nat
 name:List UInt8
 size:Nat
 shown:List UInt8
def jD:List UInt8:=[50,53,48,32,111,107,13,10]
def zm:List UInt8:=[53,48,48,32,119,104,97,116,13,10]
def G8:List UInt8:=[53,48,49,32,104,111,119,13,10]
def ni:List UInt8:=[53,48,51,32,102,105,114,115,116,13,10]
def uw:List UInt8:=[53,53,50,32,115,105,122,101,13,10]
def G7:List UInt8:=[50,50,49,32,98,121,101,13,10]
def zl:List UInt8:=[51,53,52,32,103,111,13,10]
def Fe:List UInt8:=[50,51,53,32,111,107,13,10]
def G9:List UInt8:=[53,51,53,32,110,111,13,10]
def CR:List UInt8:=[52,53,50,32,114,111,111,109,13,10]
def cQ (c:bX):List UInt8:=c.host.data.toList
def fO (s:bG) (v:Nat):Bool:=jA v s.greeted (s.tx.map fun t=>t.tos.length)
def bz (c:bX) (s:bG) (k:og):bG×List (List UInt8):=
 if fO s k.verb=false then (s,[ni]) else
 match k.verb with
 | 0=>(s,[zm])
 | 1=>(s,[G8])
 | 2=>({s with over:=true},[G7])
 | 3=>(s,[jD])
 | 4=>({s with tx:=none},[jD])
 | 5=>(match s.tx with | some t=>({s with tx:=some {t with body:=some ⟨[],false,false⟩}},[zl]) | none=>(s,[]))
 | 6=>({s with greeted:=true,tx:=none},[[50,53,48,32]++cQ c++[13,10]])
 | 7=>({s with greeted:=true,tx:=none},[[50,53,48,45]++cQ c++[13,10],[50,53,48,45,83,73,90,69,32]++Lib.itoa c.size++[13,10],[50,53,48,32,65,85,84,72,32,80,76,65,73,78,13,10]])
 | 8=>if s.tx.isSome || s.known then (s,[ni]) else if c.users.any (iV (bs k.shown)) then ({s with known:=true},[Fe]) else (s,[G9])
 | 9=>if s.tx.isSome then (s,[ni]) else if c.size < (k.size:Int) then (s,[uw]) else ({s with tx:=some ⟨k.name,[],none⟩},[jD])
 | 10=>(match s.tx with | some t=>({s with tx:=some {t with tos:=cY t.tos c.most (s.nets || s.known || dM c k.name) k.name}},[b9 t.tos c.most (s.nets || s.known || dM c k.name) k.name]) | none=>(s,[]))
 | _=>(s,[])
def cP (A:Nat→Prop) (pp pb sb ch:Nat) (vw:Value) (w:World) (s':bG) (ls':List (List UInt8)) (e:Ending) (w':World):Prop:=
 e= .returned (.tuple #[])∧∃A',cI w' A' pp pb sb ch vw ls' s'∧(∀k,A k→A' k)∧(∀k,A' k→A k∨w.heap.size≤k)∧aH A w w'
theorem cP.from {A:Nat→Prop} {pp pb sb ch:Nat} {vw:Value} {w b w':World} {f:bG} {a:List (List UInt8)} {e:Ending} (d:Below w.heap.size w b) (h:cP A pp pb sb ch vw b f a e w'):cP A pp pb sb ch vw w f a e w':=by
 obtain ⟨i,g,j,l,m,n⟩:=h;exact ⟨i,g,j,l,fun k o=>(m k o).imp id (fun e=>Nat.le_trans d.size e),(aH.below d:aH A w b).trans n (fun k _ e=>e)⟩
section
variable {A:Nat→Prop} {pp pb sb ch:Nat} {vw:Value} {w:World} {s:bG}
theorem cI.told1 (h:cI w A pp pb sb ch vw [] s) (l:List UInt8) (f:l.length≤1048576):Calls Tryz.prog 62 #[.pointer (some ⟨sb,0,none⟩),.string (bs l)] w (cP A pp pb sb ch vw w s [l++[13,10]]):=by
 refine (h.tell (by simp) l f).mono ?_;rintro e w' ⟨rfl,b,d⟩;exact ⟨rfl,A,b,fun _ a=>a,fun _ a=> .inl a,d⟩
theorem jO {w':World} {s':bG} {b:List (List UInt8)} {C:Array Value} {vx':Value} (h:cI w A pp pb sb ch vw [] s) (f:bT w sb ch C []) (d:aH (fun k=>k=sb∨k=ch) w w') (g:bT w' sb ch (iq pp pb ch vw vx' s') b) (l:oh w A vx' s'.tx):cP A pp pb sb ch vw w s' b (.returned (.tuple #[])) w':=
 ⟨rfl,A,⟨⟨vx',g,l.off d (fun k C t z _ e j=>tg f k C t z e j)⟩,h.asb,h.ach,fun k i=>Nat.lt_of_lt_of_le (h.lt k i) d.size⟩,fun _ a=>a,fun _ a=> .inl a,d.mono (fun k _ e=>by rcases e with e | e <;> rw [e];exact h.asb;exact h.ach)⟩
theorem pD {w':World} (b:∀k,k < w.heap.size→k≠sb→k≠ch→w'.heap[k]? =w.heap[k]?) (d:dU w w') (f:w.heap.size≤w'.heap.size):aH (fun k=>k=sb∨k=ch) w w':=⟨f,fun k g a=>b k g (fun e=>a (.inl e)) (fun e=>a (.inr e)),d⟩
theorem cI.quit (h:cI w A pp pb sb ch vw [] s):Calls Tryz.prog 142 #[.pointer (some ⟨sb,0,none⟩)] w (cP A pp pb sb ch vw w {s with over:=true} [G7]):=by
 obtain ⟨g,a,b⟩:=h.ex;refine (Iq sb ch _ w a).mono ?_;rintro e w' ⟨rfl,d,f⟩;exact jO h a f (s':={s with over:=true}) d b
theorem cI.reset (h:cI w A pp pb sb ch vw [] s):Calls Tryz.prog 143 #[.pointer (some ⟨sb,0,none⟩)] w (cP A pp pb sb ch vw w {s with tx:=none} [jD]):=by
 obtain ⟨j,a,i⟩:=h.ex;refine (FM sb ch _ w a).mono ?_;rintro e w' ⟨rfl,b,d,f,g⟩;exact jO h a (pD (fun k _=>d k) f (Nat.le_of_eq g.symm)) (s':={s with tx:=none}) (vx':= .pointer none) b rfl
variable {E:Nat→Prop} {c:bX}
theorem sT (c:bX):bs (cQ c)=c.host:=rfl
theorem gg.host (b:gg E w pp c):w.cell? ⟨pp,0,none⟩=some (.string (bs (cQ c)))∧(cQ c).length≤255:=by
 obtain ⟨d,f,g,h,a,_⟩:=b.set;refine ⟨(a.cell 0 (by decide)).trans rfl,?_⟩;have:=a.small.host;have e:=aG (cQ c);rw [sT] at e;omega
theorem cI.greet (h:cI w A pp pb sb ch vw [] s) (a:gg E w pp c) (j:∀k,E k→¬A k):Calls Tryz.prog 144 #[.pointer (some ⟨sb,0,none⟩)] w (cP A pp pb sb ch vw w {s with greeted:=true,tx:=none} [[50,53,48,32]++cQ c++[13,10]]):=by
 obtain ⟨m,b,l⟩:=h.ex;refine (E0 sb ch pp _ (cQ c) w b rfl a.host.1 (fun e=>j pp a.epp (by rw [e];exact h.asb)) a.host.2).mono ?_;rintro e w' ⟨rfl,d,f,g,i⟩;exact jO h b (pD (fun k _=>f k) g (Nat.le_of_eq i.symm)) (s':={s with greeted:=true,tx:=none}) (vx':= .pointer none) d rfl
theorem ly (h:ij c=true):(1≤c.most∧c.most≤10)∧(1≤c.size∧c.size≤1000)∧0≤c.room∧c.room≤1000000:=by
 unfold ij cF at h;simp only [Bool.and_eq_true,decide_eq_true_eq] at h;obtain ⟨⟨⟨⟨⟨⟨⟨⟨_,_⟩,_⟩,_⟩,a⟩,b⟩,_⟩,_⟩,d⟩:=h;exact ⟨a,b,d⟩
theorem cI.more (h:cI w A pp pb sb ch vw [] s) (a:gg E w pp c) (b:∀k,E k→¬A k):Calls Tryz.prog 145 #[.pointer (some ⟨sb,0,none⟩)] w (cP A pp pb sb ch vw w {s with greeted:=true,tx:=none} [[50,53,48,45]++cQ c++[13,10],[50,53,48,45,83,73,90,69,32]++Lib.itoa c.size++[13,10],[50,53,48,32,65,85,84,72,32,80,76,65,73,78,13,10]]):=by
 obtain ⟨q,d,j⟩:=h.ex;obtain ⟨m,n,o,p,i,_⟩:=a.set;have l:=ly a.may;refine (wE sb ch pp _ (cQ c) c.size w d rfl a.host.1 ((i.cell 5 (by decide)).trans rfl) (fun e=>b pp a.epp (by rw [e];exact h.asb)) (fun e=>b pp a.epp (by rw [e];exact h.ach)) a.host.2 a.pow (fun e=>b _ a.epow (by rw [←e];exact h.asb)) (fun e=>b _ a.epow (by rw [←e];exact h.ach)) (by omega) (by omega)).mono ?_;rintro e w' ⟨rfl,f,g⟩;exact jO h d g (s':={s with greeted:=true,tx:=none}) (vx':= .pointer none) f rfl
end
section
variable {A:Nat→Prop} {pp pb sb ch:Nat} {vw:Value} {w:World} {s:bG} {E:Nat→Prop} {c:bX}
theorem te {a:World} (h:aL ch w a):aH (fun k=>k=sb∨k=ch) w a:=(aH.same h).mono (fun _ _ e=> .inr e)
theorem oh.ptr {b:Value} {o:Option mK} (h:oh w A b o) (d:o.isSome=true):∃a,b= .pointer (some ⟨a,0,none⟩):=by
 cases o with
 | none=>cases d
 | some t=>obtain ⟨a,_,_,e,_⟩:=h;exact ⟨a,e⟩
theorem oh.nil {a:Value} {o:Option mK} (h:oh w A a o) (b:o.isSome=false):a= .pointer none:=by
 cases o with
 | none=>exact h
 | some t=>cases b
def pW (c:bX) (s:bG) (shown:List UInt8):bG×List (List UInt8):=if s.tx.isSome || s.known then (s,[ni]) else if c.users.any (iV (bs shown)) then ({s with known:=true},[Fe]) else (s,[G9])
theorem cI.know (h:cI w A pp pb sb ch vw [] s) (o:gg E w pp c) (a:List UInt8):Calls Tryz.prog 146 #[.pointer (some ⟨sb,0,none⟩),.string (bs a)] w (cP A pp pb sb ch vw w (pW c s a).1 (pW c s a).2):=by
 obtain ⟨y,d,f⟩:=h.ex;obtain ⟨t,u,v,x,q,_⟩:=o.set;unfold pW
 cases l:s.tx.isSome with
 | true=>
  obtain ⟨r,rfl⟩:=f.ptr l;refine (Fc sb ch r _ (bs a) w d rfl).mono ?_;rintro e n ⟨rfl,b,g⟩;exact jO h d (te g) (s':=s) b f
 | false=>
  have p:=f.nil l;subst p
  cases k:s.known with
  | true=>
   refine (CQ sb ch _ (bs a) w d rfl (by rw [←k];rfl)).mono ?_;rintro e n ⟨rfl,b,g⟩;exact jO h d (te g) (s':=s) b f
  | false=>
   refine (G6 sb ch pp _ c t u v x (bs a) w d q rfl rfl (by rw [←k];rfl)).mono ?_;rintro e n ⟨rfl,b,g,i,j⟩
   cases m:c.users.any (iV (bs a)) with
   | true=>
    rw [m] at b;exact jO h d (pD g i j) (s':={s with known:=true}) b f
   | false=>
    rw [m] at b;exact jO h d (pD g i j) (s':=s) b f
def lV (c:bX) (s:bG) (name:List UInt8) (size:Int):bG×List (List UInt8):=if s.tx.isSome then (s,[ni]) else if c.size < size then (s,[uw]) else ({s with tx:=some ⟨name,[],none⟩},[jD])
theorem cI.mail (h:cI w A pp pb sb ch vw [] s) (x:gg E w pp c) (d:List UInt8) (b:Int):Calls Tryz.prog 147 #[.pointer (some ⟨sb,0,none⟩),.string (bs d),.int .i64 b] w (cP A pp pb sb ch vw w (lV c s d b).1 (lV c s d b).2):=by
 obtain ⟨G,j,n⟩:=h.ex;obtain ⟨B,C,D,F,q,_⟩:=x.set;unfold lV
 cases r:s.tx.isSome with
 | true=>
  obtain ⟨z,rfl⟩:=n.ptr r;refine (yD sb ch z _ d b w j rfl).mono ?_;rintro e o ⟨rfl,l,m⟩;exact jO h j (te m) (s':=s) l n
 | false=>
  have y:=n.nil r;subst y
  by_cases f:c.size < b
  ·simp only [f,if_true];refine (yE sb ch pp _ d b c.size w j rfl rfl ((q.cell 5 (by decide)).trans rfl) f).mono ?_;rintro e o ⟨rfl,l,m⟩;exact jO h j (te m) (s':=s) l n
  ·simp only [f,if_false];refine (Ae sb ch pp _ d b c.size w j rfl rfl ((q.cell 5 (by decide)).trans rfl) f).mono ?_;rintro e o ⟨rfl,l,t,m,u,v⟩;have p:w.heap.size < o.heap.size:=ah t;refine ⟨rfl,fun k=>A k∨k=w.heap.size,⟨⟨_,l,w.heap.size,.slice none 0 0,.pointer none,rfl,.inr rfl,⟨t,rfl,.inl ⟨rfl,rfl⟩⟩,(fun g e=>by cases e),rfl⟩,.inl h.asb,.inl h.ach,fun k i=>?_⟩,fun _ a=> .inl a,fun k i=>i.imp id (fun e=>Nat.le_of_eq e.symm),(pD m u v).mono (fun k _ e=>by rcases e with e | e <;> rw [e];exact h.asb;exact h.ach)⟩
   rcases i with i | i
   ·have:=h.lt k i;omega
   ·omega
theorem cI.rcpt (h:cI w A pp pb sb ch vw [] s) (v:gg E w pp c) {t:mK} (L:s.tx=some t) (i:t.body=none) (b:List UInt8) (I:b.length≤1048576) (G:t.tos.length≤10):
  Calls Tryz.prog 148 #[.pointer (some ⟨sb,0,none⟩),.string (bs b)] w (cP A pp pb sb ch vw w {s with tx:=some {t with tos:=cY t.tos c.most (s.nets || s.known || dM c b) b}} [b9 t.tos c.most (s.nets || s.known || dM c b) b]):=by
 obtain ⟨S,B,n⟩:=h.ex;obtain ⟨N,O,P,Q,K,_⟩:=v.set;obtain ⟨m,H⟩:=v.len;rw [L] at n;obtain ⟨x,R,l,rfl,u,F,r,q⟩:=n;rw [i] at q;refine (zT sb ch pp x _ c N O P Q R l s.nets s.known t.frm b t.tos m w B K F rfl rfl rfl rfl I G H).mono ?_;rintro e y ⟨rfl,C,f,o,p,D⟩
 have M:∀g,f.ownBlock=some g→g < y.heap.size:=fun g j=>by
  obtain ⟨z,J⟩:=dm o.row j;exact ah J
 refine ⟨rfl,fun k=>A k∨f.ownBlock=some k,⟨⟨_,C,x,f,l,rfl,.inl u,o,fun g j=> .inr j,?_⟩,.inl h.asb,.inl h.ach,fun k d=>?_⟩,fun _ a=> .inl a,fun k d=>?_,p.mono (fun k _ e=>?_)⟩
 ·show rm y _ l t.body;rw [i];exact q
 ·rcases d with d | d
  ·exact Nat.lt_of_lt_of_le (h.lt k d) p.size
  ·exact M k d
 ·rcases d with d | d
  ·exact .inl d
  ·exact (D k d).imp (r k) id
 ·rcases e with e | e | e
  ·rw [e];exact h.ach
  ·rw [e];exact u
  ·exact r k e
theorem cI.data (h:cI w A pp pb sb ch vw [] s) {t:mK} (I:s.tx=some t):
  Calls Tryz.prog 149 #[.pointer (some ⟨sb,0,none⟩)] w (cP A pp pb sb ch vw w {s with tx:=some {t with body:=some ⟨[],false,false⟩}} [zl]):=by
 obtain ⟨M,l,m⟩:=h.ex;rw [I] at m;obtain ⟨j,x,J,rfl,o,d,H,K⟩:=m;refine (wz sb ch j _ _ x J w l rfl d.blk).mono ?_;rintro e y ⟨rfl,B,C,n,D,F,G⟩;have p:aH (fun k=>k=j∨k=ch) w y:=⟨G,fun k b u=>D k b (fun e=>u (.inl e)) (fun e=>u (.inr e)),F⟩;have q:w.heap.size < y.heap.size:=ah n;refine ⟨rfl,fun k=>A k∨k=w.heap.size,⟨⟨_,B,j,x,_,rfl,.inl o,⟨C,bC d.row p (fun g f e=>?_)⟩,fun g f=> .inl (H g f),w.heap.size,.slice none 0 0,rfl,.inr rfl,⟨n,World.ownsRowF_nil _ _ _ _⟩,(fun g e=>by cases e)⟩,.inl h.asb,.inl h.ach,fun k b=>?_⟩,fun _ a=> .inl a,fun k b=>b.imp id (fun e=>Nat.le_of_eq e.symm),p.mono (fun k _ e=>?_)⟩
 ·rcases e with e | e
  ·exact d.far (by rw [←e];exact f)
  ·obtain ⟨z,v⟩:=dm d.row f;obtain ⟨L,r,i⟩:=l.chan;rw [e,i] at v
   cases v
 ·rcases b with b | b
  ·have:=h.lt k b;omega
  ·omega
 ·rcases e with e | e <;> rw [e]
  ·exact o
  ·exact h.ach
end
def JN (c:bX) (s:bG) (name shown:List UInt8) (size:Nat) (z:Int) (s':bG) (ls':List (List UInt8)):Prop:=
 z=0∧s'=s∧ls'=[zm]∨z=1∧s'=s∧ls'=[G8]∨z=2∧s'={s with over:=true}∧ls'=[G7]∨z=3∧s'=s∧ls'=[jD]∨z=4∧s'={s with tx:=none}∧ls'=[jD]∨(∃t,s.tx=some t∧z=5∧s'={s with tx:=some {t with body:=some ⟨[],false,false⟩}}∧ls'=[zl])∨z=6∧s'={s with greeted:=true,tx:=none}∧ls'=[[50,53,48,32]++cQ c++[13,10]]∨z=7∧s'={s with greeted:=true,tx:=none}∧ls'=[[50,53,48,45]++cQ c++[13,10],[50,53,48,45,83,73,90,69,32]++Lib.itoa c.size++[13,10],[50,53,48,32,65,85,84,72,32,80,76,65,73,78,13,10]]∨z=8∧s'=(pW c s shown).1∧ls'=(pW c s shown).2∨z=9∧s'=(lV c s name (size:Int)).1∧ls'=(lV c s name (size:Int)).2∨∃t,s.tx=some t∧t.body=none∧name.length≤1048576∧t.tos.length≤10∧z=10∧s'={s with tx:=some {t with tos:=cY t.tos c.most (s.nets || s.known || dM c name) name}}∧ls'=[b9 t.tos c.most (s.nets || s.known || dM c name) name]
section
variable {A:Nat→Prop} {pp pb sb ch:Nat} {vw:Value} {w:World} {s:bG} {E:Nat→Prop} {c:bX} {ls:List (List UInt8)}
theorem cI.ready (h:cI w A pp pb sb ch vw ls s) (b:Nat):Calls Tryz.prog 141 #[.pointer (some ⟨sb,0,none⟩),.int .i64 (b:Int)] w fun e n=>e= .returned (.bool (fO s b))∧w=n:=by
 obtain ⟨m,f,d⟩:=h.ex;unfold fO
 cases i:s.tx with
 | none=>
  rw [i] at d;have d:m= .pointer none:=d;subst d;exact Dw sb ch _ ls b s.greeted w f rfl rfl
 | some t=>
  rw [i] at d;obtain ⟨l,u,r,rfl,q,g,p,o⟩:=d;obtain ⟨a,j,k⟩:=aE (aF g.row);exact Dx sb ch l t.tos.length j a _ ls b s.greeted w f rfl rfl ((g.cell 1).trans (by rw [k];rfl))
theorem cP.ret {d:World} {b:bG} {a:List (List UInt8)} {e:Ending} (h:cP A pp pb sb ch vw w b a e d):e= .returned (.tuple #[]):=h.1
theorem Dp (h:cI w A pp pb sb ch vw [] s) (t:gg E w pp c) (_hd:∀k,E k→¬A k) (d b:List UInt8) (f:Nat) (a:Nat) (r:fO s a=false):
  Calls Tryz.prog 102 #[.pointer (some ⟨sb,0,none⟩),.agg #[.int .i64 (a:Int),.string (bs d),.int .i64 (f:Int),.string (bs b)]] w (cP A pp pb sb ch vw w s [ni]):=by
 obtain ⟨g,j⟩:∃g:World,w.alloc (.cells #[.int .i64 (a:Int),.string (bs d),.int .i64 (f:Int),.string (bs b)] 179)=g:=⟨_,rfl⟩;have l:Below w.heap.size w g:=by rw [←j];exact (Below.refl _ _).alloc (Nat.le_refl _) _
 have i:g.heap[w.heap.size]? =some (.cells #[.int .i64 (a:Int),.string (bs d),.int .i64 (f:Int),.string (bs b)] 179 (0,0)):=by rw [←j];exact heap_alloc_new w _
 have z:g.cell? ⟨w.heap.size,0,none⟩=some (.int .i64 (a:Int)):=by rw [Lib.cell_of_heap i];rfl
 have B:g.cell? ⟨w.heap.size,1,none⟩=some (.string (bs d)):=by rw [Lib.cell_of_heap i];rfl
 have C:g.cell? ⟨w.heap.size,2,none⟩=some (.int .i64 (f:Int)):=by rw [Lib.cell_of_heap i];rfl
 have D:g.cell? ⟨w.heap.size,3,none⟩=some (.string (bs b)):=by rw [Lib.cell_of_heap i];rfl
 have o:=h.below l;have q:=t.below l;have n:Hid (Calls Tryz.prog 141 #[.pointer (some ⟨sb,0,none⟩),.int .i64 (a:Int)] g fun e y=>e= .returned (.bool false)∧g=y):=Lib.hid (by rw [←r];exact o.ready a);have x:=Lib.hid (o.told1 [53,48,51,32,102,105,114,115,116] (by decide));have m:=Lib.hid l;clear h t o q l i _hd;go_enter Tryz.func102,Tryz.ntmps102;go_wp2_with fail
 refine n.out.mono ?_;rintro e F ⟨rfl,rfl⟩;go_wp2_with fail
 refine x.out.mono ?_;rintro e G p;have r:=p.ret;subst r;have u:=Lib.hid p;clear p;go_wp2_with fail
 refine bodyPost_ret (v:= .tuple #[]) (by simp [results,Tryz.results102,go_sem]) rfl ?_;exact cP.from m.out u.out
theorem gz (h:cI w A pp pb sb ch vw [] s) (C:gg E w pp c) (v:∀k,E k→¬A k) (b a:List UInt8) (d:Nat) {j:Nat} {z:Int} {F:bG} {o:List (List UInt8)} (D:(j:Int)=z) (y:fO s j=true) (J:JN c s b a d z F o):
  Calls Tryz.prog 102 #[.pointer (some ⟨sb,0,none⟩),.agg #[.int .i64 z,.string (bs b),.int .i64 (d:Int),.string (bs a)]] w (cP A pp pb sb ch vw w F o):=by
 obtain ⟨l,n⟩:∃l:World,w.alloc (.cells #[.int .i64 z,.string (bs b),.int .i64 (d:Int),.string (bs a)] 179)=l:=⟨_,rfl⟩;have p:Below w.heap.size w l:=by rw [←n];exact (Below.refl _ _).alloc (Nat.le_refl _) _
 have m:l.heap[w.heap.size]? =some (.cells #[.int .i64 z,.string (bs b),.int .i64 (d:Int),.string (bs a)] 179 (0,0)):=by rw [←n];exact heap_alloc_new w _
 have L:l.cell? ⟨w.heap.size,0,none⟩=some (.int .i64 z):=by rw [Lib.cell_of_heap m];rfl
 have M:l.cell? ⟨w.heap.size,1,none⟩=some (.string (bs b)):=by rw [Lib.cell_of_heap m];rfl
 have N:l.cell? ⟨w.heap.size,2,none⟩=some (.int .i64 (d:Int)):=by rw [Lib.cell_of_heap m];rfl
 have O:l.cell? ⟨w.heap.size,3,none⟩=some (.string (bs a)):=by rw [Lib.cell_of_heap m];rfl
 have f:=h.below p;have g:=C.below p;have r:Hid (Calls Tryz.prog 141 #[.pointer (some ⟨sb,0,none⟩),.int .i64 z] l fun e K=>e= .returned (.bool true)∧l=K):=Lib.hid (by rw [←D,←y];exact f.ready j)
 rcases J with ⟨rfl,rfl,rfl⟩ | ⟨rfl,rfl,rfl⟩ | ⟨rfl,rfl,rfl⟩ | ⟨rfl,rfl,rfl⟩ | ⟨rfl,rfl,rfl⟩ | ⟨t,B,rfl,rfl,rfl⟩ | ⟨rfl,rfl,rfl⟩ | ⟨rfl,rfl,rfl⟩ | ⟨rfl,rfl,rfl⟩ | ⟨rfl,rfl,rfl⟩ | ⟨t,B,x,I,H,rfl,rfl,rfl⟩;have i:=Lib.hid (f.told1 [53,48,48,32,119,104,97,116] (by decide))
 rotate_left
 have i:=Lib.hid (f.told1 [53,48,49,32,104,111,119] (by decide))
 rotate_left
 have i:=Lib.hid (f.quit)
 rotate_left
 have i:=Lib.hid (f.told1 [50,53,48,32,111,107] (by decide))
 rotate_left
 have i:=Lib.hid (f.reset)
 rotate_left
 have i:=Lib.hid (f.data B)
 rotate_left
 have i:=Lib.hid (f.greet g v)
 rotate_left
 have i:=Lib.hid (f.more g v)
 rotate_left
 have i:=Lib.hid (f.know g a)
 rotate_left
 have i:=Lib.hid (f.mail g b (d:Int))
 rotate_left
 have i:=Lib.hid (f.rcpt g B x b I H)
 rotate_left
 all_goals
  have q:=Lib.hid p;clear h C f g p m v D;go_enter Tryz.func102,Tryz.ntmps102;go_wp2_with fail
  refine r.out.mono ?_;rintro e P ⟨rfl,rfl⟩;go_wp2_with fail
  refine i.out.mono ?_;rintro e Q u;have y:=u.ret;subst y;have G:=Lib.hid u;clear u;go_wp2_with fail
  refine bodyPost_end (results_none rfl _ _ _) rfl ?_;exact cP.from q.out G.out
end
def jo (k:og):Value:= .agg #[.int .i64 (k.verb:Int),.string (bs k.name),.int .i64 (k.size:Int),.string (bs k.shown)]
def iI:og:=⟨1,[],0,[]⟩
def rJ (v:Nat):og:=⟨v,[],0,[]⟩
def la (v:Nat) (has:Bool):og:=if has then iI else rJ v
def mW (v:Nat) (arg:List UInt8):og:=if jj arg then rJ v else iI
theorem ia {f:World} {k:Nat} {a b c d x y z u:Value} {t:TypeId} (h:f.heap[k]? =some (.cells #[a,b,c,d] t (0,0))):
  let W:=(((f.setCell ⟨k,0,none⟩ x).setCell ⟨k,1,none⟩ y).setCell ⟨k,2,none⟩ z).setCell ⟨k,3,none⟩ u
  W.cell? ⟨k,0,none⟩=some x∧W.cell? ⟨k,1,none⟩=some y∧W.cell? ⟨k,2,none⟩=some z∧W.cell? ⟨k,3,none⟩=some u∧aL k f W:=by
 intro W;have g:=heap_setCell_same f k 0 _ _ x h;have i:=heap_setCell_same _ k 1 _ _ y g;have j:=heap_setCell_same _ k 2 _ _ z i;have e:=heap_setCell_same _ k 3 _ _ u j;exact ⟨by rw [Lib.cell_of_heap e];rfl,by rw [Lib.cell_of_heap e];rfl,by rw [Lib.cell_of_heap e];rfl,by rw [Lib.cell_of_heap e];rfl,((((aL.refl _ _).setCell _).setCell _).setCell _).setCell _⟩
theorem j9 (v:Nat) (a:Bool) (w:World):Calls Tryz.prog 152 #[.int .i64 (v:Int),.bool a] w fun e g=>e= .returned (jo (la v a))∧Below w.heap.size w g:=by
 cases a with
 | true=>
  go_enter Tryz.func152,Tryz.ntmps152;go_wp2_with fail
  have X:=heap_alloc_new w (.cells #[.int .i64 1,.string ⟨#[]⟩,.int .i64 0,.string ⟨#[]⟩] 179);have b:(w.alloc (.cells #[.int .i64 1,.string ⟨#[]⟩,.int .i64 0,.string ⟨#[]⟩] 179)).cell? ⟨w.heap.size,0,none⟩=some (.int .i64 1):=by rw [Lib.cell_of_heap X];rfl
  have c:(w.alloc (.cells #[.int .i64 1,.string ⟨#[]⟩,.int .i64 0,.string ⟨#[]⟩] 179)).cell? ⟨w.heap.size,1,none⟩=some (.string ⟨#[]⟩):=by rw [Lib.cell_of_heap X];rfl
  have d:(w.alloc (.cells #[.int .i64 1,.string ⟨#[]⟩,.int .i64 0,.string ⟨#[]⟩] 179)).cell? ⟨w.heap.size,2,none⟩=some (.int .i64 0):=by rw [Lib.cell_of_heap X];rfl
  have f:(w.alloc (.cells #[.int .i64 1,.string ⟨#[]⟩,.int .i64 0,.string ⟨#[]⟩] 179)).cell? ⟨w.heap.size,3,none⟩=some (.string ⟨#[]⟩):=by rw [Lib.cell_of_heap X];rfl
  refine bodyPost_ret (v:= .agg #[.int .i64 1,.string ⟨#[]⟩,.int .i64 0,.string ⟨#[]⟩]) (by simp [results,Tryz.results152,go_sem,b,c,d,f]) rfl ?_;exact ⟨rfl,(Below.refl _ _).alloc (Nat.le_refl _) _⟩
 | false=>
  go_enter Tryz.func152,Tryz.ntmps152;go_wp2_with fail
  have X:=heap_alloc_new w (.cells #[.int .i64 (v:Int),.string ⟨#[]⟩,.int .i64 0,.string ⟨#[]⟩] 179);have b:(w.alloc (.cells #[.int .i64 (v:Int),.string ⟨#[]⟩,.int .i64 0,.string ⟨#[]⟩] 179)).cell? ⟨w.heap.size,0,none⟩=some (.int .i64 (v:Int)):=by rw [Lib.cell_of_heap X];rfl
  have c:(w.alloc (.cells #[.int .i64 (v:Int),.string ⟨#[]⟩,.int .i64 0,.string ⟨#[]⟩] 179)).cell? ⟨w.heap.size,1,none⟩=some (.string ⟨#[]⟩):=by rw [Lib.cell_of_heap X];rfl
  have d:(w.alloc (.cells #[.int .i64 (v:Int),.string ⟨#[]⟩,.int .i64 0,.string ⟨#[]⟩] 179)).cell? ⟨w.heap.size,2,none⟩=some (.int .i64 0):=by rw [Lib.cell_of_heap X];rfl
  have f:(w.alloc (.cells #[.int .i64 (v:Int),.string ⟨#[]⟩,.int .i64 0,.string ⟨#[]⟩] 179)).cell? ⟨w.heap.size,3,none⟩=some (.string ⟨#[]⟩):=by rw [Lib.cell_of_heap X];rfl
  refine bodyPost_ret (v:= .agg #[.int .i64 (v:Int),.string ⟨#[]⟩,.int .i64 0,.string ⟨#[]⟩]) (by simp [results,Tryz.results152,go_sem,b,c,d,f]) rfl ?_;exact ⟨rfl,(Below.refl _ _).alloc (Nat.le_refl _) _⟩
theorem oC (v:Nat) (arg:List UInt8) (m:Int) (w:World) (F:arg.length≤1048576) (o:w.cell? ⟨0,0,none⟩=some (.int .i64 m)):Calls Tryz.prog 153 #[.int .i64 (v:Int),.string (bs arg)] w fun e E=>e= .returned (jo (mW v arg))∧Below w.heap.size w E:=by
 obtain ⟨h,b⟩:∃h:World,w.alloc (.cells #[.int .i64 0,.string ⟨#[]⟩,.int .i64 0,.string ⟨#[]⟩] 179)=h:=⟨_,rfl⟩;have j:Below w.heap.size w h:=by rw [←b];exact (Below.refl _ _).alloc (Nat.le_refl _) _
 have D:h.heap[w.heap.size]? =some (.cells #[.int .i64 0,.string ⟨#[]⟩,.int .i64 0,.string ⟨#[]⟩] 179 (0,0)):=by rw [←b];exact heap_alloc_new w _
 have G:=aG arg;have B:=Lib.hid (iy (bs arg) m h (by unfold maxLen;omega) ((j.cell (aC o)).trans o));have d:=Lib.hid j;have l:=Lib.hid D;have k:=Lib.hid b;clear j D b o;go_enter Tryz.func153,Tryz.ntmps153;go_wp2_with fail
 rw [k.out];refine B.out.mono ?_;rintro e i ⟨rfl,c⟩;rw [aI];have a:=ae c l.out;have H:i.cell? ⟨w.heap.size,0,none⟩=some (.int .i64 0):=by rw [Lib.cell_of_heap a];rfl
 have I:i.cell? ⟨w.heap.size,1,none⟩=some (.string ⟨#[]⟩):=by rw [Lib.cell_of_heap a];rfl
 have J:i.cell? ⟨w.heap.size,2,none⟩=some (.int .i64 0):=by rw [Lib.cell_of_heap a];rfl
 have K:i.cell? ⟨w.heap.size,3,none⟩=some (.string ⟨#[]⟩):=by rw [Lib.cell_of_heap a];rfl
 have L:=Lib.frozen_of_heap a 0;have M:=Lib.frozen_of_heap a 1;have N:=Lib.frozen_of_heap a 2;have O:=Lib.frozen_of_heap a 3;have g:=Lib.hid a;have f:=Lib.hid (d.out.trans (c.mono d.out.size));obtain ⟨t,n⟩:∃t,jj arg=t:=⟨_,rfl⟩;rw [n];have C:Hid (mW v arg=if t then rJ v else iI):=Lib.hid (by unfold mW;rw [n]);clear a c n B
 cases t with
 | true=>
  go_wp2_with fail
  obtain ⟨p,q,r,s,A⟩:=ia (x:= .int .i64 (v:Int)) (y:= .string ⟨#[]⟩) (z:= .int .i64 0) (u:= .string ⟨#[]⟩) g.out;refine bodyPost_ret (v:= .agg #[.int .i64 (v:Int),.string ⟨#[]⟩,.int .i64 0,.string ⟨#[]⟩]) (by simp [results,Tryz.results153,go_sem,p,q,r,s]) rfl ?_;exact ⟨by rw [C.out];rfl,f.out.trans (A.below (Nat.le_refl _))⟩
 | false=>
  go_wp2_with fail
  obtain ⟨p,q,r,s,A⟩:=ia (x:= .int .i64 1) (y:= .string ⟨#[]⟩) (z:= .int .i64 0) (u:= .string ⟨#[]⟩) g.out;refine bodyPost_ret (v:= .agg #[.int .i64 1,.string ⟨#[]⟩,.int .i64 0,.string ⟨#[]⟩]) (by simp [results,Tryz.results153,go_sem,p,q,r,s]) rfl ?_;exact ⟨by rw [C.out];rfl,f.out.trans (A.below (Nat.le_refl _))⟩
def fp (l:List UInt8):Prop:=∀x∈l,x.toNat < 128
def fu (s p:List UInt8):Option (List UInt8):=if s.length < p.length then none else if Lib.equalFold (s.take p.length) p then some (s.drop p.length) else none
def xz (o:Option (List UInt8)):Value:=
 match o with
 | some r=> .tuple #[.string (bs r),.bool true]
 | none=> .tuple #[.string ⟨#[]⟩,.bool false]
theorem jK (s p:List UInt8) (w:World) (_:s.length≤1048576) (r:p.length≤100) (i:fp s) (k:fp p):Calls Tryz.prog 208 #[.string (bs s),.string (bs p)] w fun e f=>e= .returned (xz (fu s p))∧w=f:=by
 have o:=aG s;have q:=aG p
 by_cases c:s.length < p.length
 ·have a:Hid (fu s p=none):=Lib.hid (by unfold fu;rw [if_pos c]);have m:(s.length:Int) < (p.length:Int):=by omega
  go_enter Tryz.func208,Tryz.ntmps208;go_wp2_with fail
  go_ret2
  exact ⟨by rw [a.out];rfl,rfl⟩
 ·have m:¬(s.length:Int) < (p.length:Int):=by omega
  have n:(bs s).extract 0 p.length=bs (s.take p.length):=by rw [fW,List.drop_zero]
  have l:(bs s).extract p.length s.length=bs (s.drop p.length):=by rw [fW,List.take_length]
  have g:Hid (∀W:World,Calls Tryz.prog 246 #[.string (bs (s.take p.length)),.string (bs p)] W fun e f=>e= .returned (.bool (Lib.equalFold (s.take p.length) p))∧f=W):=Lib.hid (fun W=>Tryz.strings_EqualFold (bs (s.take p.length)) (bs p) W (by rw [aG,List.length_take];omega) (fun j b d=>i b (List.mem_of_mem_take (List.mem_of_getElem? d))) (fun j b d=>k b (List.mem_of_getElem? d)));have a:Hid (fu s p=if Lib.equalFold (s.take p.length) p then some (s.drop p.length) else none):=Lib.hid (by unfold fu;rw [if_neg c]);obtain ⟨t,h⟩:∃t,Lib.equalFold (s.take p.length) p=t:=⟨_,rfl⟩;rw [h] at g a;clear i k h;go_enter Tryz.func208,Tryz.ntmps208;go_wp2_with fail
  refine (g.out w).mono ?_;rintro e u ⟨rfl,rfl⟩
  cases t with
  | true=>
   go_wp2_with fail
   go_ret2
   exact ⟨by rw [a.out];rfl,rfl⟩
  | false=>
   go_wp2_with fail
   go_ret2
   exact ⟨by rw [a.out];rfl,rfl⟩
def oZ (l:List UInt8):Bool:=decide (1≤l.length) && decide (l.length≤9) && !(decide (1 < l.length) && (l.getD 0 0 == 48)) && l.all fun c=>ix c.toNat
theorem Dm {l:List UInt8} (h:l.length < 1):oZ l=false:=by unfold oZ;rw [decide_eq_false (by omega)];rfl
theorem Fu {l:List UInt8} (h:9 < l.length):oZ l=false:=by unfold oZ;rw [decide_eq_false (p:=l.length≤9) (by omega),Bool.and_false];rfl
theorem Fv {l:List UInt8} (h:1 < l.length) (a:l.getD 0 0=48):oZ l=false:=by unfold oZ;rw [decide_eq_true (p:=1 < l.length) h,a];simp
theorem Bo {l:List UInt8} (b:1≤l.length) (d:l.length≤9) (a:l.length=1∨l.getD 0 0≠48):oZ l=l.all fun c=>ix c.toNat:=by
 unfold oZ;rw [decide_eq_true b,decide_eq_true d]
 have:(decide (1 < l.length) && (l.getD 0 0 == 48))=false:=by
  rcases a with a | a
  ·rw [decide_eq_false (by omega)];rfl
  ·rw [beq_eq_false_iff_ne.2 a,Bool.and_false]
 rw [this];simp
theorem zg (s:ByteArray) (w:World) (y:s.size≤maxLen):
  Calls Tryz.prog 248 #[.string s] w fun e A=>e= .returned (.bool (oZ s.data.toList))∧A=w:=by
 unfold maxLen at y;have z:=aJ s
 by_cases B:s.size < 1
 ·have b:=Lib.hid (Dm (l:=s.data.toList) (by omega));have x:(s.size:Int) < 1:=by omega
  go_enter Tryz.func248,Tryz.ntmps248;go_wp2_with fail
  go_ret;exact ⟨by rw [b.out];rfl,rfl⟩
 ·have x:¬(s.size:Int) < 1:=by omega
  by_cases C:9 < s.size
  ·have b:=Lib.hid (Fu (l:=s.data.toList) (by omega));have h:(9:Int) < (s.size:Int):=by omega
   go_enter Tryz.func248,Tryz.ntmps248;go_wp2_with fail
   go_ret;exact ⟨by rw [b.out];rfl,rfl⟩
  ·have h:¬(9:Int) < (s.size:Int):=by omega
   by_cases D:s.size=1
   ·have b:=Lib.hid (Bo (l:=s.data.toList) (by omega) (by omega) (.inl (by omega)));have t:¬(1:Int) < (s.size:Int):=by omega
    go_enter Tryz.func248,Tryz.ntmps248;go_wp2_with fail
    go_loop [24] (fun i=>∃k:Nat,k≤s.size∧i= .int .i64 k∧Hid (∀j:Nat,j < k→(fun c:UInt8=>ix c.toNat) (s.data.toList.getD j 0)=true)) (fun i=>s.size - (intOf i).toNat)
    case atStart=>exact ⟨0,Nat.zero_le _,rfl,fun j h=>by omega⟩
    case round=>
     obtain ⟨k,t,rfl,n⟩:=hrel
     by_cases a:k < s.size
     ·have o:(k:Int) < (s.size:Int):=by omega
      have g:Hid (s.data.toList.getD k 0=s[k]):=pN s k a
      by_cases u:(s[k].toNat:Int) < 48
      ·have d:Hid ((fun c:UInt8=>ix c.toNat) s[k]=false):=Lib.hid (by simp only [ix];rw [decide_eq_false (by omega)];rfl);go_wp2_with fail
       go_ret;exact ⟨cG (by rw [b.out];exact (qH (p:=fun c:UInt8=>ix c.toNat) (by rw [aJ];exact a) (by rw [g.out];exact d.out)).symm),rfl⟩
      ·by_cases r:(57:Int) < (s[k].toNat:Int)
       ·have d:Hid ((fun c:UInt8=>ix c.toNat) s[k]=false):=Lib.hid (by simp only [ix];rw [decide_eq_false (p:=(s[k].toNat:Int)≤57) (by omega),Bool.and_false]);go_wp2_with fail
        go_ret;exact ⟨cG (by rw [b.out];exact (qH (p:=fun c:UInt8=>ix c.toNat) (by rw [aJ];exact a) (by rw [g.out];exact d.out)).symm),rfl⟩
       ·have d:Hid ((fun c:UInt8=>ix c.toNat) s[k]=true):=Lib.hid (by simp only [ix];rw [decide_eq_true (by omega),decide_eq_true (by omega)];rfl);go_wp2_with fail
        exact ⟨⟨k+1,by omega,by go_num,Lib.hid (qj (p:=fun c:UInt8=>ix c.toNat) n.out g.out d.out)⟩,by simp [intOf];omega⟩
     ·go_wp2_with fail
      go_ret;exact ⟨cG (by rw [b.out];exact (yx (p:=fun c:UInt8=>ix c.toNat) (fun j h=>n.out j (by rw [aJ] at h;omega))).symm),rfl⟩
   ·have t:(1:Int) < (s.size:Int):=by omega
    have v:0 < s.size:=by omega
    have f:=pN s 0 v
    by_cases m:s[0]=48
    ·have b:=Lib.hid (Fv (l:=s.data.toList) (by omega) (by rw [f,m]));have q:((s[0].toNat:Int) == 48)=true:=by rw [m];rfl
     clear m f;go_enter Tryz.func248,Tryz.ntmps248;go_wp2_with fail
     go_ret;exact ⟨by rw [b.out];rfl,rfl⟩
    ·have b:=Lib.hid (Bo (l:=s.data.toList) (by omega) (by omega) (.inr (by rw [f];exact m)))
     have q:((s[0].toNat:Int) == 48)=false:=by
      rw [beq_eq_false_iff_ne];intro e;exact m (UInt8.toNat_inj.1 (by show s[0].toNat=48;omega))
     clear m f;go_enter Tryz.func248,Tryz.ntmps248;go_wp2_with fail
     go_loop [24] (fun i=>∃k:Nat,k≤s.size∧i= .int .i64 k∧Hid (∀j:Nat,j < k→(fun c:UInt8=>ix c.toNat) (s.data.toList.getD j 0)=true)) (fun i=>s.size - (intOf i).toNat)
     case atStart=>exact ⟨0,Nat.zero_le _,rfl,fun j h=>by omega⟩
     case round=>
      obtain ⟨k,t,rfl,n⟩:=hrel
      by_cases a:k < s.size
      ·have o:(k:Int) < (s.size:Int):=by omega
       have g:Hid (s.data.toList.getD k 0=s[k]):=pN s k a
       by_cases u:(s[k].toNat:Int) < 48
       ·have d:Hid ((fun c:UInt8=>ix c.toNat) s[k]=false):=Lib.hid (by simp only [ix];rw [decide_eq_false (by omega)];rfl);go_wp2_with fail
        go_ret;exact ⟨cG (by rw [b.out];exact (qH (p:=fun c:UInt8=>ix c.toNat) (by rw [aJ];exact a) (by rw [g.out];exact d.out)).symm),rfl⟩
       ·by_cases r:(57:Int) < (s[k].toNat:Int)
        ·have d:Hid ((fun c:UInt8=>ix c.toNat) s[k]=false):=Lib.hid (by simp only [ix];rw [decide_eq_false (p:=(s[k].toNat:Int)≤57) (by omega),Bool.and_false]);go_wp2_with fail
         go_ret;exact ⟨cG (by rw [b.out];exact (qH (p:=fun c:UInt8=>ix c.toNat) (by rw [aJ];exact a) (by rw [g.out];exact d.out)).symm),rfl⟩
        ·have d:Hid ((fun c:UInt8=>ix c.toNat) s[k]=true):=Lib.hid (by simp only [ix];rw [decide_eq_true (by omega),decide_eq_true (by omega)];rfl);go_wp2_with fail
         exact ⟨⟨k+1,by omega,by go_num,Lib.hid (qj (p:=fun c:UInt8=>ix c.toNat) n.out g.out d.out)⟩,by simp [intOf];omega⟩
      ·go_wp2_with fail
       go_ret;exact ⟨cG (by rw [b.out];exact (yx (p:=fun c:UInt8=>ix c.toNat) (fun j h=>n.out j (by rw [aJ] at h;omega))).symm),rfl⟩
def EP (l:List UInt8):Nat:=l.foldl (fun n c=>10 * n+(c.toNat - 48)) 0
theorem mR:∀(l:List UInt8) (a:Nat),(∀c∈l,ix c.toNat=true)→Lib.decFrom a l=some (l.foldl (fun n c=>10 * n+(c.toNat - 48)) a)
 | [],a,_=>by simp [Lib.decFrom]
 | c::l,a,h=>by
  have b:=h c (List.mem_cons_self ..);unfold ix at b;simp only [Bool.and_eq_true,decide_eq_true_eq] at b;have d:Lib.digitVal c=some (c.toNat - 48):=by unfold Lib.digitVal;rw [if_pos (by omega)]
  rw [Lib.decFrom,d,List.foldl_cons];show Lib.decFrom (a * 10+(c.toNat - 48)) l=_;rw [mR l _ (fun x e=>h x (List.mem_cons_of_mem _ e)),Nat.mul_comm]
theorem rO {l:List UInt8} (h:oZ l=true):(1≤l.length∧l.length≤9)∧∀c∈l,ix c.toNat=true:=by
 unfold oZ at h;simp only [Bool.and_eq_true,decide_eq_true_eq,List.all_eq_true] at h;exact ⟨⟨h.1.1.1,h.1.1.2⟩,h.2⟩
theorem zZ {l:List UInt8} (h:oZ l=true):Lib.atoi l=some ((EP l:Nat):Int):=by
 obtain ⟨⟨d,_⟩,b⟩:=rO h
 cases l with
 | nil=>simp at d
 | cons c l=>
  have a:=b c (List.mem_cons_self ..);unfold ix at a;simp only [Bool.and_eq_true,decide_eq_true_eq] at a;have e:(c == 45)=false:=by rw [beq_eq_false_iff_ne];rintro rfl;simp at a
  have f:(c == 43)=false:=by rw [beq_eq_false_iff_ne];rintro rfl;simp at a
  unfold Lib.atoi;simp only [e,f,Bool.false_eq_true,if_false];unfold Lib.decNat;rw [show (c::l).isEmpty=false from rfl];simp only [Bool.false_eq_true,if_false];rw [mR _ _ b];rfl
def kT (l:List UInt8):Option Nat:=
 if l=[] then some 0 else match fu l [32,83,73,90,69,61] with | some d=>if oZ d then some (EP d) else none | none=>none
def Iw (o:Option Nat):Value:=
 match o with
 | some n=> .tuple #[.int .i64 (n:Int),.bool true]
 | none=> .tuple #[.int .i64 0,.bool false]
theorem wB {W:World} {e:TypeId} {x:ByteArray}:Below W.heap.size W (Lib.bytesWorld W e x):=
 ⟨by simp [Lib.bytesWorld,World.freeze,World.alloc,World.drew, -World.alloc_eq, -World.drew_eq],by simp [Lib.bytesWorld,World.freeze,World.alloc,World.drew, -World.alloc_eq, -World.drew_eq],by simp [Lib.bytesWorld,World.freeze,World.alloc,World.drew, -World.alloc_eq, -World.drew_eq],by rw [Lib.bytesWorld_size];omega,fun k a=>Lib.bytesWorld_at_old W e x k a⟩
theorem mQ {s p r:List UInt8} (h:fu s p=some r) (a:fp s):fp r∧r.length≤s.length:=by
 unfold fu at h
 split at h
 ·cases h
 ·split at h
  ·injection h with h;rw [←h];exact ⟨fun x b=>a x (List.mem_of_mem_drop b),by rw [List.length_drop];omega⟩
  ·cases h
theorem zu (l:List UInt8) (w:World) (s:l.length≤1048576) (k:fp l):
  Calls Tryz.prog 211 #[.string (bs l)] w fun e v=>e= .returned (Iw (kT l))∧Below w.heap.size w v:=by
 by_cases h:l=[]
 ·subst h;have q:Hid (kT []=some 0):=Lib.hid rfl;rw [show bs ([]:List UInt8)=⟨#[]⟩ from rfl];go_enter Tryz.func211,Tryz.ntmps211;go_wp2_with fail
  go_ret2
  exact ⟨by rw [q.out];rfl,Below.refl _ _⟩
 ·have u:((bs l).toList == [])=false:=by rw [beq_eq_false_iff_ne,ByteArray.toList_eq,aI];exact h
  have a:=Lib.hid (jK l [32,83,73,90,69,61] w s (by decide) k (by unfold fp;decide));have f:Hid (kT l=match fu l [32,83,73,90,69,61] with | some d=>if oZ d then some (EP d) else none | none=>none):=Lib.hid (by unfold kT;rw [if_neg h])
  cases c:fu l [32,83,73,90,69,61] with
  | none=>
   rw [c] at a f;have b:Hid (kT l=none):=Lib.hid f.out;clear c f h k;simp only [xz] at a;go_enter Tryz.func211,Tryz.ntmps211;go_wp2_with fail
   refine a.out.mono ?_;rintro e p ⟨rfl,rfl⟩;go_wp2_with fail
   go_ret2
   exact ⟨by rw [b.out];rfl,Below.refl _ _⟩
  | some d=>
   rw [c] at a f;have o:=mQ c k;simp only [xz] at a;have r:=aG d;have j:=Lib.hid (zg (bs d) w (by unfold maxLen;omega));rw [aI] at j
   cases g:oZ d with
   | false=>
    rw [g] at j;have b:Hid (kT l=none):=Lib.hid (by rw [f.out];simp only [];rw [g];rfl);clear c f h k o g;go_enter Tryz.func211,Tryz.ntmps211;go_wp2_with fail
    refine a.out.mono ?_;rintro e p ⟨rfl,rfl⟩;go_wp2_with (first | (go_at_call 248;refine j.out.mono ?_;rintro e x ⟨rfl,rfl⟩) | fail)
    go_ret2
    exact ⟨by rw [b.out];rfl,Below.refl _ _⟩
   | true=>
    rw [g] at j;have b:Hid (kT l=some (EP d)):=Lib.hid (by rw [f.out];simp only [];rw [g];rfl);have i:=Lib.hid (Tryz.strconv_Atoi (bs d) ((EP d:Nat):Int) (by have:=(rO g).1;omega) (by rw [aI];exact zZ g) w);obtain ⟨n,m⟩:∃n,EP d=n:=⟨_,rfl⟩;rw [m] at b i;clear c f h k o g m;go_enter Tryz.func211,Tryz.ntmps211;go_wp2_with fail
    refine a.out.mono ?_;rintro e p ⟨rfl,rfl⟩;go_wp2_with (first | (go_at_call 248;refine j.out.mono ?_;rintro e x ⟨rfl,rfl⟩) | fail)
    refine i.out.mono ?_;rintro e y ⟨rfl,t,rfl⟩;go_wp2_with fail
    go_quiet (fail)
    go_wp2_with fail
    go_ret2
    exact ⟨by rw [b.out];rfl,wB.trans (bA _ _ _)⟩
structure J8 (w:World) (k:Nat):Prop where
 blk:w.heap[k]? =some (.cells #[.int .i64 0,.string ⟨#[]⟩,.int .i64 0,.string ⟨#[]⟩] 179 (0,0))
 c0:w.cell? ⟨k,0,none⟩=some (.int .i64 0)
 c1:w.cell? ⟨k,1,none⟩=some (.string ⟨#[]⟩)
 c2:w.cell? ⟨k,2,none⟩=some (.int .i64 0)
 c3:w.cell? ⟨k,3,none⟩=some (.string ⟨#[]⟩)
 f0:w.frozen? ⟨k,0,none⟩=false
 f1:w.frozen? ⟨k,1,none⟩=false
 f2:w.frozen? ⟨k,2,none⟩=false
 f3:w.frozen? ⟨k,3,none⟩=false
theorem rB {w:World} {k:Nat} (h:w.heap[k]? =some (.cells #[.int .i64 0,.string ⟨#[]⟩,.int .i64 0,.string ⟨#[]⟩] 179 (0,0))):J8 w k:=
 ⟨h,by rw [Lib.cell_of_heap h];rfl,by rw [Lib.cell_of_heap h];rfl,by rw [Lib.cell_of_heap h];rfl,by rw [Lib.cell_of_heap h];rfl,Lib.frozen_of_heap h 0,Lib.frozen_of_heap h 1,Lib.frozen_of_heap h 2,Lib.frozen_of_heap h 3⟩
def ry (arg:List UInt8):og:=
 match fu arg [80,76,65,73,78,32] with
 | some l=>(match kv l with | some b=>⟨8,[],0,b⟩ | none=>iI)
 | none=>iI
theorem EO:kv []=some []:=rfl
theorem zs (arg:List UInt8) (w:World) (T:arg.length≤1048576) (A:fp arg):
  Calls Tryz.prog 154 #[.string (bs arg)] w fun e V=>e= .returned (jo (ry arg))∧Below w.heap.size w V:=by
 obtain ⟨r,m⟩:∃r:World,w.alloc (.cells #[.int .i64 0,.string ⟨#[]⟩,.int .i64 0,.string ⟨#[]⟩] 179)=r:=⟨_,rfl⟩;have G:Below w.heap.size w r:=by rw [←m];exact (Below.refl _ _).alloc (Nat.le_refl _) _
 have H:r.heap[w.heap.size]? =some (.cells #[.int .i64 0,.string ⟨#[]⟩,.int .i64 0,.string ⟨#[]⟩] 179 (0,0)):=by rw [←m];exact heap_alloc_new w _
 have c:=Lib.hid (jK arg [80,76,65,73,78,32] r T (by decide) A (by unfold fp;decide));have n:Hid (ry arg=match fu arg [80,76,65,73,78,32] with | some l=>(match kv l with | some b=>⟨8,[],0,b⟩ | none=>iI) | none=>iI):=Lib.hid rfl;have f:=Lib.hid G;have q:=Lib.hid H;have p:=Lib.hid m;clear G H m
 cases g:fu arg [80,76,65,73,78,32] with
 | none=>
  rw [g] at c n;simp only [xz] at c;have i:Hid (ry arg=iI):=Lib.hid n.out;have d:=Lib.hid (rR ⟨#[]⟩ r (by decide));clear g n A;go_enter Tryz.func154,Tryz.ntmps154;go_wp2_with fail
  rw [p.out];refine c.out.mono ?_;rintro e R ⟨rfl,rfl⟩;go_wp2_with fail
  refine d.out.mono ?_;intro e S s;rw [EO] at s;obtain ⟨rfl,a⟩:=s;have t:=rB (ae a q.out);obtain ⟨o,I,J,K,L,M,N,O,P⟩:=t;have k:=Lib.hid o;have j:=Lib.hid (f.out.trans (a.mono f.out.size));clear o a d c;go_wp2_with fail
  obtain ⟨B,C,D,E,F⟩:=ia (x:= .int .i64 1) (y:= .string ⟨#[]⟩) (z:= .int .i64 0) (u:= .string ⟨#[]⟩) k.out;refine bodyPost_ret (v:= .agg #[.int .i64 1,.string ⟨#[]⟩,.int .i64 0,.string ⟨#[]⟩]) (by simp [results,Tryz.results154,go_sem,B,C,D,E]) rfl ?_;exact ⟨by rw [i.out];rfl,j.out.trans (F.below (Nat.le_refl _))⟩
 | some l=>
  rw [g] at c n;simp only [xz] at c;have Q:=mQ g A;have U:=aG l;have d:=Lib.hid (rR (bs l) r (by omega));rw [aI] at d
  cases h:kv l with
  | none=>
   rw [h] at d;have i:Hid (ry arg=iI):=Lib.hid (by rw [n.out];simp only [];rw [h]);clear g n A Q h;go_enter Tryz.func154,Tryz.ntmps154;go_wp2_with fail
   rw [p.out];refine c.out.mono ?_;rintro e R ⟨rfl,rfl⟩;go_wp2_with fail
   refine d.out.mono ?_;intro e S s;obtain ⟨rfl,a⟩:=s;have t:=rB (ae a q.out);obtain ⟨o,I,J,K,L,M,N,O,P⟩:=t;have k:=Lib.hid o;have j:=Lib.hid (f.out.trans (a.mono f.out.size));clear o a d c;go_wp2_with fail
   obtain ⟨B,C,D,E,F⟩:=ia (x:= .int .i64 1) (y:= .string ⟨#[]⟩) (z:= .int .i64 0) (u:= .string ⟨#[]⟩) k.out;refine bodyPost_ret (v:= .agg #[.int .i64 1,.string ⟨#[]⟩,.int .i64 0,.string ⟨#[]⟩]) (by simp [results,Tryz.results154,go_sem,B,C,D,E]) rfl ?_;exact ⟨by rw [i.out];rfl,j.out.trans (F.below (Nat.le_refl _))⟩
  | some b=>
   rw [h] at d;have i:Hid (ry arg=⟨8,[],0,b⟩):=Lib.hid (by rw [n.out];simp only [];rw [h]);clear g n A Q h;go_enter Tryz.func154,Tryz.ntmps154;go_wp2_with fail
   rw [p.out];refine c.out.mono ?_;rintro e R ⟨rfl,rfl⟩;go_wp2_with fail
   refine d.out.mono ?_;intro e S s;obtain ⟨rfl,a⟩:=s;have t:=rB (ae a q.out);obtain ⟨o,I,J,K,L,M,N,O,P⟩:=t;have k:=Lib.hid o;have j:=Lib.hid (f.out.trans (a.mono f.out.size));clear o a d c;go_wp2_with fail
   obtain ⟨B,C,D,E,F⟩:=ia (x:= .int .i64 8) (y:= .string ⟨#[]⟩) (z:= .int .i64 0) (u:= .string ⟨b.toArray⟩) k.out;refine bodyPost_ret (v:= .agg #[.int .i64 8,.string ⟨#[]⟩,.int .i64 0,.string ⟨b.toArray⟩]) (by simp [results,Tryz.results154,go_sem,B,C,D,E]) rfl ?_;exact ⟨by rw [i.out];rfl,j.out.trans (F.below (Nat.le_refl _))⟩
def gV (o:Option (List UInt8)):List UInt8:=match o with | some r=>r | none=>[]
def JU (o:Option (List UInt8)):Value:= .tuple #[.string (bs (gV o)),.bool o.isSome]
theorem Aq (o:Option (List UInt8)):xz o=JU o:=by cases o <;> rfl
def vc (arg:List UInt8):og:=
 let o:=fu arg [84,79,58,60]
 if o.isSome && Lib.hasSuffix (gV o) [62] && (jb (Lib.trimSuffix (gV o) [62])).2 then ⟨10,dY (Lib.trimSuffix (gV o) [62]),0,[]⟩ else iI
theorem qw {arg p:List UInt8} (a:fp arg):fp (gV (fu arg p))∧(gV (fu arg p)).length≤arg.length:=by
 cases h:fu arg p with
 | none=>exact ⟨(fun x b=>by cases b),Nat.zero_le _⟩
 | some r=>exact mQ h a
theorem xm (l p:List UInt8):(Lib.trimSuffix l p).length≤l.length:=by
 unfold Lib.trimSuffix
 split
 ·rw [List.length_take];omega
 ·exact Nat.le_refl _
theorem zt (arg:List UInt8) (m:Int) (w:World) (hl:arg.length≤1048576) (M:fp arg) (O:w.cell? ⟨0,0,none⟩=some (.int .i64 m)):
  Calls Tryz.prog 156 #[.string (bs arg)] w fun e V=>e= .returned (jo (vc arg))∧Below w.heap.size w V:=by
 obtain ⟨i,k⟩:∃i:World,w.alloc (.cells #[.int .i64 0,.string ⟨#[]⟩,.int .i64 0,.string ⟨#[]⟩] 179)=i:=⟨_,rfl⟩;have H:Below w.heap.size w i:=by rw [←k];exact (Below.refl _ _).alloc (Nat.le_refl _) _
 have W:i.heap[w.heap.size]? =some (.cells #[.int .i64 0,.string ⟨#[]⟩,.int .i64 0,.string ⟨#[]⟩] 179 (0,0)):=by rw [←k];exact heap_alloc_new w _
 have m0:=(H.cell (aC O)).trans O;have h:=jK arg [84,79,58,60] i hl (by decide) M (by unfold fp;decide);rw [Aq] at h;have F:=qw (p:=[84,79,58,60]) M;have l:Hid (vc arg=if (fu arg [84,79,58,60]).isSome && Lib.hasSuffix (gV (fu arg [84,79,58,60])) [62] && (jb (Lib.trimSuffix (gV (fu arg [84,79,58,60])) [62])).2 then ⟨10,dY (Lib.trimSuffix (gV (fu arg [84,79,58,60])) [62]),0,[]⟩ else iI):=Lib.hid rfl;unfold JU at h;obtain ⟨c,Y⟩:∃b,(fu arg [84,79,58,60]).isSome=b:=⟨_,rfl⟩;obtain ⟨f,K⟩:∃r,gV (fu arg [84,79,58,60])=r:=⟨_,rfl⟩;rw [Y,K] at h l;rw [K] at F;have a0:=aG f;have j:=Tryz.strings_CutSuffix (bs f) ⟨#[62]⟩ i (by omega);rw [aI,show (⟨#[62]⟩:ByteArray).data.toList=[62] from rfl] at j;have G:=xm f [62];obtain ⟨a,Z⟩:∃b,Lib.hasSuffix f [62]=b:=⟨_,rfl⟩;obtain ⟨g,L⟩:∃r,Lib.trimSuffix f [62]=r:=⟨_,rfl⟩;rw [Z,L] at j l;rw [L] at G;have o:=oL g m i (by omega) m0;obtain ⟨s,e5⟩:∃b,(jb g).2=b:=⟨_,rfl⟩;obtain ⟨P,e6⟩:∃r,dY g=r:=⟨_,rfl⟩;rw [e5,e6] at o l;have C:=Lib.hid h;have D:Hid (Calls Tryz.prog 212 #[.string (bs f),.string ⟨#[62]⟩] i fun e V=>e= .returned (.tuple #[.string (bs g),.bool a])∧V=i):=Lib.hid j;have t:=Lib.hid o;have A:=Lib.hid H;have J:=Lib.hid W;have I:=Lib.hid k;clear H W k O m0 h j o Y K Z L e5 e6 F G M;go_enter Tryz.func156,Tryz.ntmps156;go_wp2_with fail
 rw [I.out];refine C.out.mono ?_;rintro e w1 ⟨rfl,rfl⟩;go_wp2_with fail
 refine D.out.mono ?_;rintro e w2 ⟨rfl,rfl⟩;go_wp2_with fail
 refine t.out.mono ?_;rintro e w3 ⟨rfl,q⟩;obtain ⟨X,c0,c1,c2,c3,f0,f1,f2,f3⟩:=rB (ae q J.out);have E:=Lib.hid X;have B:=Lib.hid (A.out.trans (q.mono A.out.size));clear X q t D C
 by_cases d:(c && a && s)=true
 ·have n:Hid (vc arg=⟨10,P,0,[]⟩):=Lib.hid (by rw [l.out,if_pos d]);simp only [Bool.and_eq_true] at d;obtain ⟨⟨rfl,rfl⟩,rfl⟩:=d;clear l;go_wp2_with fail
  obtain ⟨Q,R,S,T,U⟩:=ia (x:= .int .i64 10) (y:= .string (bs P)) (z:= .int .i64 0) (u:= .string ⟨#[]⟩) E.out;refine bodyPost_ret (v:= .agg #[.int .i64 10,.string (bs P),.int .i64 0,.string ⟨#[]⟩]) (by simp [results,Tryz.results156,go_sem,Q,R,S,T]) rfl ?_;exact ⟨by rw [n.out];rfl,B.out.trans (U.below (Nat.le_refl _))⟩
 ·have n:Hid (vc arg=iI):=Lib.hid (by rw [l.out,if_neg d])
  have N:c=false∨(c=true∧a=false)∨(c=true∧a=true∧s=false):=by
   cases c <;> cases a <;> cases s <;> simp at d ⊢
  clear l d
  rcases N with rfl | ⟨rfl,rfl⟩ | ⟨rfl,rfl,rfl⟩
  all_goals
   go_wp2_with fail
   obtain ⟨Q,R,S,T,U⟩:=ia (x:= .int .i64 1) (y:= .string ⟨#[]⟩) (z:= .int .i64 0) (u:= .string ⟨#[]⟩) E.out;refine bodyPost_ret (v:= .agg #[.int .i64 1,.string ⟨#[]⟩,.int .i64 0,.string ⟨#[]⟩]) (by simp [results,Tryz.results156,go_sem,Q,R,S,T]) rfl ?_;exact ⟨by rw [n.out];rfl,B.out.trans (U.below (Nat.le_refl _))⟩
theorem Ix (o:Option Nat):Iw o= .tuple #[.int .i64 ((o.getD 0:Nat):Int),.bool o.isSome]:=by cases o <;> rfl
def uJ (arg:List UInt8):og:=
 let o:=fu arg [70,82,79,77,58,60]
 let x:=cz 62 (gV o)
 if o.isSome && x.2.2 && ((jb x.1).2 || x.1.isEmpty) && (kT x.2.1).isSome then ⟨9,dY x.1,(kT x.2.1).getD 0,[]⟩ else iI
theorem ub (c:UInt8) (l x y:List UInt8) (f:Bool) (h:cz c l=(x,y,f)):(∀a∈x,a∈l)∧∀a∈y,a∈l:=by
 cases d:(cz c l).2.2 with
 | true=>
  have:=(lL c l d).1;rw [h] at this;simp only at this;rw [this];exact ⟨fun a b=>List.mem_append_left _ b,fun a b=>List.mem_append_right _ (List.mem_cons_of_mem _ b)⟩
 | false=>
  have:=(lu c l d).1;rw [h] at this;injection this with e1 e2;injection e2 with e2 _;subst e1 e2;exact ⟨fun a b=>b,fun a b=>by cases b⟩
theorem xf (arg:List UInt8) (m:Int) (w:World) (hl:arg.length≤1048576) (R:fp arg) (hm:w.cell? ⟨0,0,none⟩=some (.int .i64 m)):
  Calls Tryz.prog 155 #[.string (bs arg)] w fun e w'=>e= .returned (jo (uJ arg))∧Below w.heap.size w w':=by
 obtain ⟨j,t⟩:∃j:World,w.alloc (.cells #[.int .i64 0,.string ⟨#[]⟩,.int .i64 0,.string ⟨#[]⟩] 179)=j:=⟨_,rfl⟩;have U:Below w.heap.size w j:=by rw [←t];exact (Below.refl _ _).alloc (Nat.le_refl _) _
 have X0:j.heap[w.heap.size]? =some (.cells #[.int .i64 0,.string ⟨#[]⟩,.int .i64 0,.string ⟨#[]⟩] 179 (0,0)):=by rw [←t];exact heap_alloc_new w _
 have m0:=(U.cell (aC hm)).trans hm;have l:=jK arg [70,82,79,77,58,60] j hl (by decide) R (by unfold fp;decide);rw [Aq] at l;have H:=qw (p:=[70,82,79,77,58,60]) R;have o:Hid (uJ arg=if (fu arg [70,82,79,77,58,60]).isSome && (cz 62 (gV (fu arg [70,82,79,77,58,60]))).2.2 && ((jb (cz 62 (gV (fu arg [70,82,79,77,58,60]))).1).2 || (cz 62 (gV (fu arg [70,82,79,77,58,60]))).1.isEmpty) && (kT (cz 62 (gV (fu arg [70,82,79,77,58,60]))).2.1).isSome then ⟨9,dY (cz 62 (gV (fu arg [70,82,79,77,58,60]))).1,(kT (cz 62 (gV (fu arg [70,82,79,77,58,60]))).2.1).getD 0,[]⟩ else iI):=Lib.hid rfl;unfold JU at l;obtain ⟨c,e1⟩:∃b,(fu arg [70,82,79,77,58,60]).isSome=b:=⟨_,rfl⟩;obtain ⟨B,Z⟩:∃r,gV (fu arg [70,82,79,77,58,60])=r:=⟨_,rfl⟩;rw [e1,Z] at l o;rw [Z] at H;have a2:=aG B;have N:=Lib.hid (jB (bs B) 62 j (by unfold maxLen;omega));have O:=Lib.hid m0;have P:=Lib.hid H;have M:=Lib.hid l;have K:=Lib.hid U;have Y:=Lib.hid X0;have X:=Lib.hid t;clear U X0 t hm m0 l e1 Z H R;go_enter Tryz.func155,Tryz.ntmps155;go_wp2_with fail
 rw [X.out];refine M.out.mono ?_;rintro e w1 ⟨rfl,rfl⟩;go_wp2_with fail
 refine N.out.mono ?_;rintro e w2 ⟨x,y,d,rfl,I,n,rfl⟩;rw [aI] at I;obtain ⟨f,rfl⟩:∃r,x=bs r:=⟨x.data.toList,rfl⟩;obtain ⟨g,rfl⟩:∃r,y=bs r:=⟨y.data.toList,rfl⟩;rw [aI,aI] at I;rw [I] at o;simp only at o;have a0:=sX 62 _ _ _ _ I;have k:=ub 62 _ _ _ _ I;have a1:=P.out.2;have G:=oL f m (j.drewN n) (by omega) (((bA n j j.heap.size).cell (aC O.out)).trans O.out);obtain ⟨i,e5⟩:∃b,(jb f).2=b:=⟨_,rfl⟩;obtain ⟨kp,e6⟩:∃r,dY f=r:=⟨_,rfl⟩;rw [e5,e6] at G o;have s:Hid (∀W:World,Calls Tryz.prog 211 #[.string (bs g)] W fun e w'=>e= .returned (Iw (kT g))∧Below W.heap.size W w'):=Lib.hid (fun W=>zu g W (by omega) (fun a R=>P.out.1 a (k.2 a R)));rw [Ix] at s;obtain ⟨A,e7⟩:∃b,(kT g).isSome=b:=⟨_,rfl⟩;obtain ⟨sz,e8⟩:∃r,(kT g).getD 0=r:=⟨_,rfl⟩;rw [e7,e8] at s o;have J:=Lib.hid G;clear I a0 k a1 G e5 e6 e7 e8 N M;go_wp2_with fail
 refine J.out.mono ?_;rintro e w3 ⟨rfl,S⟩;have C:=Lib.hid S;clear S;go_wp2_with fail
 refine (s.out w3).mono ?_;rintro e w4 ⟨rfl,T⟩;have V:Below j.heap.size j w4:=(bA n j j.heap.size).trans ((C.out.mono (by simp)).trans (T.mono (by have:=C.out.size;simp at this;exact this)));obtain ⟨X1,c0,c1,c2,c3,f0,f1,f2,f3⟩:=rB (ae V Y.out);have Q:=Lib.hid X1;have L:=Lib.hid (K.out.trans (V.mono K.out.size));obtain ⟨F,E⟩:∃b,f.isEmpty=b:=⟨_,rfl⟩
 have q:Hid (F=true ↔ (bs f).toList=[]):=Lib.hid (by
  rw [ByteArray.toList_eq,aI,←E]
  cases f <;> simp)
 rw [E] at o;clear X1 T J s V C E
 by_cases h:(c && d && (i || F) && A)=true
 ·have D:Hid (uJ arg=⟨9,kp,sz,[]⟩):=Lib.hid (by rw [o.out,if_pos h]);simp only [Bool.and_eq_true] at h;obtain ⟨⟨⟨rfl,rfl⟩,h3⟩,rfl⟩:=h;have k:i=true∨(i=false∧F=true):=by cases i <;> cases F <;> simp at h3 ⊢
  clear o h3
  rcases k with rfl | ⟨rfl,rfl⟩
  all_goals
   try (have hE:(bs f).toList=[]:=q.out.1 rfl)
   try (have hE:¬(bs f).toList=[]:=fun e=>Bool.false_ne_true (q.out.2 e))
   go_wp2_with fail
   obtain ⟨r0,r1,r2,r3,rS⟩:=ia (x:= .int .i64 9) (y:= .string (bs kp)) (z:= .int .i64 (sz:Int)) (u:= .string ⟨#[]⟩) Q.out;refine bodyPost_ret (v:= .agg #[.int .i64 9,.string (bs kp),.int .i64 (sz:Int),.string ⟨#[]⟩]) (by simp [results,Tryz.results155,go_sem,r0,r1,r2,r3]) rfl ?_;exact ⟨by rw [D.out];rfl,L.out.trans (rS.below (Nat.le_refl _))⟩
 ·have D:Hid (uJ arg=iI):=Lib.hid (by rw [o.out,if_neg h])
  have k:c=false∨(c=true∧d=false)∨(c=true∧d=true∧i=false∧F=false)∨(c=true∧d=true∧i=true∧A=false)∨(c=true∧d=true∧i=false∧F=true∧A=false):=by
   cases c <;> cases d <;> cases i <;> cases F <;> cases A <;> simp at h ⊢
  clear o h
  rcases k with rfl | ⟨rfl,rfl⟩ | ⟨rfl,rfl,rfl,rfl⟩ | ⟨rfl,rfl,rfl,rfl⟩ | ⟨rfl,rfl,rfl,rfl,rfl⟩
  all_goals
   try (have hE:(bs f).toList=[]:=q.out.1 rfl)
   try (have hE:¬(bs f).toList=[]:=fun e=>Bool.false_ne_true (q.out.2 e))
   go_wp2_with fail
   obtain ⟨r0,r1,r2,r3,rS⟩:=ia (x:= .int .i64 1) (y:= .string ⟨#[]⟩) (z:= .int .i64 0) (u:= .string ⟨#[]⟩) Q.out;refine bodyPost_ret (v:= .agg #[.int .i64 1,.string ⟨#[]⟩,.int .i64 0,.string ⟨#[]⟩]) (by simp [results,Tryz.results155,go_sem,r0,r1,r2,r3]) rfl ?_;exact ⟨by rw [D.out];rfl,L.out.trans (rS.below (Nat.le_refl _))⟩
def JM:List (List UInt8):=[[81,85,73,84],[78,79,79,80],[82,83,69,84],[68,65,84,65],[72,69,76,79],[69,72,76,79],[65,85,84,72],[77,65,73,76],[82,67,80,84]]
def Ed (W:List UInt8) (arg:List UInt8) (has:Bool):og:=
 if W=[81,85,73,84] then la 2 has
 else if W=[78,79,79,80] then la 3 has
 else if W=[82,83,69,84] then la 4 has
 else if W=[68,65,84,65] then la 5 has
 else if W=[72,69,76,79] then mW 6 arg
 else if W=[69,72,76,79] then mW 7 arg
 else if W=[65,85,84,72] then ry arg
 else if W=[77,65,73,76] then uJ arg
 else if W=[82,67,80,84] then vc arg
 else rJ 0
def bn (text:List UInt8) (bad:Bool):og:=if bad then rJ 0 else Ed (Lib.toUpperA (cz 32 text).1) (cz 32 text).2.1 (cz 32 text).2.2
theorem Al (a:List UInt8) (w:World):Calls Tryz.prog 103 #[.agg #[.string (bs a),.bool true]] w fun e l=>e= .returned (jo (bn a true))∧Below w.heap.size w l:=by
 have g:Hid (bn a true=rJ 0):=Lib.hid rfl;go_enter Tryz.func103,Tryz.ntmps103;go_wp2_with fail
 obtain ⟨c,b⟩:∃c:World,w.alloc (.cells #[.string (bs a),.bool true] 138)=c:=⟨_,rfl⟩;have d:c.heap.size=w.heap.size+1:=by rw [←b];simp
 have f:Below w.heap.size w c:=by rw [←b];exact (Below.refl _ _).alloc (Nat.le_refl _) _
 rw [b];have X:=heap_alloc_new c (.cells #[.int .i64 0,.string ⟨#[]⟩,.int .i64 0,.string ⟨#[]⟩] 179);rw [d] at X;obtain ⟨_,h,i,j,k,_⟩:=rB X;refine bodyPost_ret (v:= .agg #[.int .i64 0,.string ⟨#[]⟩,.int .i64 0,.string ⟨#[]⟩]) (by simp [results,Tryz.results103,go_sem,h,i,j,k]) rfl ?_;exact ⟨by rw [g.out];rfl,f.alloc f.size _⟩
theorem yq (a:List UInt8) (w:World) (g:a.length≤1048576) (c:fp a):Calls Tryz.prog 151 #[.string (bs a)] w fun e f=>e= .returned (.string (bs (Lib.toUpperA a)))∧Below w.heap.size w f:=by
 have h:=aG a;exact Tryz.strings_ToUpper_ascii (bs a) w (by omega) (fun j b d=>c b (List.mem_of_getElem? d))
def JO (V arg:List UInt8) (has:Bool) (kx:og):Prop:=bs V=⟨#[81,85,73,84]⟩∧la 2 has=kx∨bs V=⟨#[78,79,79,80]⟩∧la 3 has=kx∨bs V=⟨#[82,83,69,84]⟩∧la 4 has=kx∨bs V=⟨#[68,65,84,65]⟩∧la 5 has=kx∨bs V=⟨#[72,69,76,79]⟩∧mW 6 arg=kx∨bs V=⟨#[69,72,76,79]⟩∧mW 7 arg=kx∨bs V=⟨#[65,85,84,72]⟩∧ry arg=kx∨bs V=⟨#[77,65,73,76]⟩∧uJ arg=kx∨bs V=⟨#[82,67,80,84]⟩∧vc arg=kx
theorem fA (b:List UInt8) (m:Int) (w:World) (hl:b.length≤1048576) (A:fp b) (X:w.cell? ⟨0,0,none⟩=some (.int .i64 m)) {V:List UInt8} {h:og} (hW:Lib.toUpperA (cz 32 b).1=V) (M:JO V (cz 32 b).2.1 (cz 32 b).2.2 h):Calls Tryz.prog 103 #[.agg #[.string (bs b),.bool false]] w fun e w'=>e= .returned (jo h)∧Below w.heap.size w w':=by
 obtain ⟨l,q⟩:∃l:World,w.alloc (.cells #[.string (bs b),.bool false] 138)=l:=⟨_,rfl⟩;have N:Below w.heap.size w l:=by rw [←q];exact (Below.refl _ _).alloc (Nat.le_refl _) _
 have Y:l.heap.size=w.heap.size+1:=by rw [←q];simp
 have L0:l.heap[w.heap.size]? =some (.cells #[.string (bs b),.bool false] 138 (0,0)):=by rw [←q];exact heap_alloc_new w _
 obtain ⟨d,F⟩:∃d:World,l.alloc (.cells #[.int .i64 0,.string ⟨#[]⟩,.int .i64 0,.string ⟨#[]⟩] 179)=d:=⟨_,rfl⟩;have O:Below l.heap.size l d:=by rw [←F];exact (Below.refl _ _).alloc (Nat.le_refl _) _
 have X1:d.heap[w.heap.size+1]? =some (.cells #[.int .i64 0,.string ⟨#[]⟩,.int .i64 0,.string ⟨#[]⟩] 179 (0,0)):=by rw [←F,←Y];exact heap_alloc_new l _
 have U:=ae O L0;have l0:d.cell? ⟨w.heap.size,0,none⟩=some (.string (bs b)):=by rw [Lib.cell_of_heap U];rfl
 have l1:d.cell? ⟨w.heap.size,1,none⟩=some (.bool false):=by rw [Lib.cell_of_heap U];rfl
 have p:Below w.heap.size w d:=N.trans (O.mono N.size);have a0:=aG b;have E:=Lib.hid (jB (bs b) 32 d (by unfold maxLen;omega));have HM:=Lib.hid ((p.cell (aC X)).trans X);have P:=Lib.hid A;have C:=Lib.hid p;have R:=Lib.hid X1;have L:=Lib.hid hW;have K:=Lib.hid M;clear N L0 O X1 U X A p hW M;go_enter Tryz.func103,Tryz.ntmps103;go_wp2_with fail
 refine E.out.mono ?_;rintro e w2 ⟨x,y,o,rfl,B,n,rfl⟩;rw [aI] at B;obtain ⟨I,rfl⟩:∃r,x=bs r:=⟨x.data.toList,rfl⟩;obtain ⟨arg,rfl⟩:∃r,y=bs r:=⟨y.data.toList,rfl⟩;rw [aI,aI] at B;have W:=sX 32 _ _ _ _ B;have t:=ub 32 _ _ _ _ B;have k:=Lib.hid (yq I (d.drewN n) (by omega) (fun a A=>P.out a (t.1 a A)));have c:Hid (fp arg∧arg.length≤1048576):=Lib.hid ⟨fun a A=>P.out a (t.2 a A),by omega⟩
 rw [B] at L K;simp only at L K;have H:=L.out;rw [H] at k;have M:=K.out;clear B W t E P K L H
 rcases M with ⟨f,g⟩ | ⟨f,g⟩ | ⟨f,g⟩ | ⟨f,g⟩ | ⟨f,g⟩ | ⟨f,g⟩ | ⟨f,g⟩ | ⟨f,g⟩ | ⟨f,g⟩
 all_goals
  rw [f] at k;have Z:=Lib.hid g;clear f g;go_wp2_with fail
  refine k.out.mono ?_;rintro e i ⟨rfl,G⟩;have J:Below d.heap.size d i:=(bA n d d.heap.size).trans (G.mono (by simp));have D:=Lib.hid (C.out.trans (J.mono C.out.size));have S:=Lib.hid (ae J R.out);have j:=Lib.hid ((J.cell (aC HM.out)).trans HM.out);clear G J k;go_wp2_with fail
 refine (j9 2 o i).mono ?_
 rotate_left
 refine (j9 3 o i).mono ?_
 rotate_left
 refine (j9 4 o i).mono ?_
 rotate_left
 refine (j9 5 o i).mono ?_
 rotate_left
 refine (oC 6 arg m i c.out.2 j.out).mono ?_
 rotate_left
 refine (oC 7 arg m i c.out.2 j.out).mono ?_
 rotate_left
 refine (zs arg i c.out.2 c.out.1).mono ?_
 rotate_left
 refine (xf arg m i c.out.2 c.out.1 j.out).mono ?_
 rotate_left
 refine (zt arg m i c.out.2 c.out.1 j.out).mono ?_
 rotate_left
 all_goals
  rintro e w4 ⟨rfl,s⟩;rw [Z.out];simp only [jo];obtain ⟨X4,c0,c1,c2,c3,f0,f1,f2,f3⟩:=rB (ae s S.out);have T:=Lib.hid X4;have Q:=Lib.hid (D.out.trans (s.mono D.out.size));clear X4 s Z;go_wp2_with fail
  obtain ⟨r0,r1,r2,r3,rS⟩:=ia (x:= .int .i64 (h.verb:Int)) (y:= .string (bs h.name)) (z:= .int .i64 (h.size:Int)) (u:= .string (bs h.shown)) T.out;refine bodyPost_ret (v:= .agg #[.int .i64 (h.verb:Int),.string (bs h.name),.int .i64 (h.size:Int),.string (bs h.shown)]) (by simp [results,Tryz.results103,go_sem,r0,r1,r2,r3]) rfl ?_;exact ⟨rfl,Q.out.trans (rS.below (Nat.le_succ _))⟩
theorem yL (b:List UInt8) (m:Int) (w:World) (hl:b.length≤1048576) (l:fp b) (K:w.cell? ⟨0,0,none⟩=some (.int .i64 m)) (R:Lib.toUpperA (cz 32 b).1 ∉ JM):Calls Tryz.prog 103 #[.agg #[.string (bs b),.bool false]] w fun e w'=>e= .returned (jo (rJ 0))∧Below w.heap.size w w':=by
 obtain ⟨f,j⟩:∃f:World,w.alloc (.cells #[.string (bs b),.bool false] 138)=f:=⟨_,rfl⟩;have B:Below w.heap.size w f:=by rw [←j];exact (Below.refl _ _).alloc (Nat.le_refl _) _
 have L:f.heap.size=w.heap.size+1:=by rw [←j];simp
 have N:f.heap[w.heap.size]? =some (.cells #[.string (bs b),.bool false] 138 (0,0)):=by rw [←j];exact heap_alloc_new w _
 obtain ⟨c,s⟩:∃c:World,f.alloc (.cells #[.int .i64 0,.string ⟨#[]⟩,.int .i64 0,.string ⟨#[]⟩] 179)=c:=⟨_,rfl⟩;have C:Below f.heap.size f c:=by rw [←s];exact (Below.refl _ _).alloc (Nat.le_refl _) _
 have O:c.heap[w.heap.size+1]? =some (.cells #[.int .i64 0,.string ⟨#[]⟩,.int .i64 0,.string ⟨#[]⟩] 179 (0,0)):=by rw [←s,←L];exact heap_alloc_new f _
 have I:=ae C N;have l0:c.cell? ⟨w.heap.size,0,none⟩=some (.string (bs b)):=by rw [Lib.cell_of_heap I];rfl
 have l1:c.cell? ⟨w.heap.size,1,none⟩=some (.bool false):=by rw [Lib.cell_of_heap I];rfl
 have h:Below w.heap.size w c:=B.trans (C.mono B.size);have W:=aG b;have q:=Lib.hid (jB (bs b) 32 c (by unfold maxLen;omega));have M:=Lib.hid ((h.cell (aC K)).trans K);have D:=Lib.hid l;have p:=Lib.hid h;have F:=Lib.hid O;have d:=Lib.hid R;clear B N C O I K l h R;go_enter Tryz.func103,Tryz.ntmps103;go_wp2_with fail
 refine q.out.mono ?_;rintro e w2 ⟨x,y,V,rfl,o,n,rfl⟩;rw [aI] at o;obtain ⟨g,rfl⟩:∃r,x=bs r:=⟨x.data.toList,rfl⟩;obtain ⟨arg,rfl⟩:∃r,y=bs r:=⟨y.data.toList,rfl⟩;rw [aI,aI] at o;have J:=sX 32 _ _ _ _ o;have k:=ub 32 _ _ _ _ o;have i:=Lib.hid (yq g (c.drewN n) (by omega) (fun a l=>D.out a (k.1 a l)));have S:Hid (fp arg∧arg.length≤1048576):=Lib.hid ⟨fun a l=>D.out a (k.2 a l),by omega⟩
 rw [o] at d;simp only at d;obtain ⟨U,Q⟩:∃U,Lib.toUpperA g=U:=⟨_,rfl⟩;rw [Q] at d i;have n0:((bs U).toList == [81,85,73,84])=false:=by rw [beq_eq_false_iff_ne,ByteArray.toList_eq,aI];exact fun e=>d.out (by rw [e];decide)
 have n1:((bs U).toList == [78,79,79,80])=false:=by rw [beq_eq_false_iff_ne,ByteArray.toList_eq,aI];exact fun e=>d.out (by rw [e];decide)
 have n2:((bs U).toList == [82,83,69,84])=false:=by rw [beq_eq_false_iff_ne,ByteArray.toList_eq,aI];exact fun e=>d.out (by rw [e];decide)
 have n3:((bs U).toList == [68,65,84,65])=false:=by rw [beq_eq_false_iff_ne,ByteArray.toList_eq,aI];exact fun e=>d.out (by rw [e];decide)
 have n4:((bs U).toList == [72,69,76,79])=false:=by rw [beq_eq_false_iff_ne,ByteArray.toList_eq,aI];exact fun e=>d.out (by rw [e];decide)
 have n5:((bs U).toList == [69,72,76,79])=false:=by rw [beq_eq_false_iff_ne,ByteArray.toList_eq,aI];exact fun e=>d.out (by rw [e];decide)
 have n6:((bs U).toList == [65,85,84,72])=false:=by rw [beq_eq_false_iff_ne,ByteArray.toList_eq,aI];exact fun e=>d.out (by rw [e];decide)
 have n7:((bs U).toList == [77,65,73,76])=false:=by rw [beq_eq_false_iff_ne,ByteArray.toList_eq,aI];exact fun e=>d.out (by rw [e];decide)
 have n8:((bs U).toList == [82,67,80,84])=false:=by rw [beq_eq_false_iff_ne,ByteArray.toList_eq,aI];exact fun e=>d.out (by rw [e];decide)
 clear Q;clear o J k q D;go_wp2_with fail
 refine i.out.mono ?_;rintro e w3 ⟨rfl,t⟩;have A:Below c.heap.size c w3:=(bA n c c.heap.size).trans (t.mono (by simp));have E:=Lib.hid (p.out.trans (A.mono p.out.size));have G:=Lib.hid (ae A F.out);have T:=Lib.hid ((A.cell (aC M.out)).trans M.out);clear t A i;obtain ⟨P,c0,c1,c2,c3,f0,f1,f2,f3⟩:=rB G.out;have H:=Lib.hid P;clear P;go_wp2_with fail
 obtain ⟨X,Y,Z,r3,rS⟩:=ia (x:= .int .i64 0) (y:= .string ⟨#[]⟩) (z:= .int .i64 0) (u:= .string ⟨#[]⟩) H.out;refine bodyPost_ret (v:= .agg #[.int .i64 0,.string ⟨#[]⟩,.int .i64 0,.string ⟨#[]⟩]) (by simp [results,Tryz.results103,go_sem,X,Y,Z,r3]) rfl ?_;exact ⟨rfl,E.out.trans (rS.below (Nat.le_succ _))⟩
end Go.Proofs.YtofpegbpgkkgkaaGreatDoor
