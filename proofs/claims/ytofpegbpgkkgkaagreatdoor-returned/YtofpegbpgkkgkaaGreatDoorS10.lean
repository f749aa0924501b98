import Derived.Test.YtofpegbpgkkgkaaGreatDoorS08
import Derived.Test.YtofpegbpgkkgkaaGreatDoorS09
namespace Go.Proofs.YtofpegbpgkkgkaaGreatDoor
set_option maxHeartbeats 8000000
set_option maxRecDepth 1000000
open Go.RowKit
def oM (s:ByteArray):Prop:=∀(j:Nat) (b:UInt8),s.data.toList[j]? =some b→b.toNat < 128
def my (dom:ByteArray) (d:ByteArray):Bool:=Lib.equalFold d.data.toList dom.data.toList
theorem ER (d a:ByteArray) (g:Nat) (w:World) (i:w.cell? ⟨g,0,none⟩=some (.string a)) (j:d.size≤255) (c:oM d) (f:oM a):
  Calls Tryz.prog 266 #[.string d,.pointer (some ⟨g,0,none⟩)] w fun e b=>e= .returned (.bool (my a d))∧Below w.heap.size w b:=by
 have h:Hid (∀W:World,Calls Tryz.prog 246 #[.string d,.string a] W fun e b=>e= .returned (.bool (Lib.equalFold d.data.toList a.data.toList))∧b=W):=Lib.hid (fun W=>Tryz.strings_EqualFold d a W (by omega) c f);clear c f;go_enter Tryz.func266,Tryz.ntmps266;go_wp2_with fail
 refine (h.out _).mono ?_;rintro e k ⟨rfl,rfl⟩;go_wp2_with fail
 go_ret;exact ⟨rfl,Below.refl _ _⟩
theorem tC {l:List ByteArray} {p:ByteArray→Bool} {k:Nat} (h:k < l.length) (a:(l.take k).any p=false) (b:p l[k]=false):(l.take (k+1)).any p=false:=by
 rw [List.take_succ_eq_append_getElem h,List.any_append,a];simp [b]
theorem uj (l:List ByteArray) (v:Value) (u:Nat) (a:ByteArray) (w:World) (N:bg w v l.length 1 (dK l)) (K:w.cell? ⟨u,0,none⟩=some (.string a)) (X:l.length≤5) (O:∀d∈l,d.size≤255∧oM d) (I:oM a):
  Calls Tryz.prog 289 #[v,.func (.func 266) #[] #[.pointer (some ⟨u,0,none⟩)]] w fun e E=>∃r:Int,e= .returned (.int .i64 r)∧(-1≤r∧r≤255)∧decide (0≤r)=l.any (my a)∧Below w.heap.size w E:=by
 obtain ⟨U,V,rfl,h⟩:=N.one;have Q:=Lib.hid h;have F:=Lib.hid K;have R:=Lib.hid O;have P:=Lib.hid I;obtain ⟨s,M⟩:∃s,w.heap.size=s:=⟨_,rfl⟩;have f:=Lib.hid M;clear N M K h O I;go_enter Tryz.func289,Tryz.ntmps289;go_wp2_with fail
 go_loopw [5,8] (fun _ i E=>∃k:Nat,k≤l.length∧i= .int .i64 k∧Hid ((l.take k).any (my a)=false)∧Hid (Below s w E)) (fun _ i _=>l.length - (intOf i).toNat)
 case atStart=>exact ⟨0,Nat.zero_le _,rfl,Lib.hid rfl,Lib.hid (by rw [←f.out];exact Below.refl _ _)⟩
 case round=>
  obtain ⟨k,W,rfl,y,o⟩:=hrel
  by_cases j:k < l.length
  ·have L:(k:Int) < (l.length:Int):=by omega
   obtain ⟨g,D,rfl,B,A⟩:=Q.out k j;rw [dK,List.getElem?_map,List.getElem?_eq_getElem j] at A;have S:wr.cell? ⟨g,D+k,none⟩=some (.string l[k]):=(o.out.cell (by show g < s;rw [←f.out];exact B)).trans A;have G:wr.cell? ⟨u,0,none⟩=some (.string a):=(o.out.cell (by show u < s;rw [←f.out];exact eI F.out)).trans F.out;have q:Hid (∀b:Bool,my a l[k]=b→(b=true→l.any (my a)=true)∧(b=false→(l.take (k+1)).any (my a)=false)):=Lib.hid (fun b J=>⟨fun e=>List.any_eq_true.2 ⟨_,List.getElem_mem j,by rw [J,e]⟩,fun e=>tC j y.out (by rw [J,e])⟩);have m:=R.out l[k] (List.getElem_mem j);obtain ⟨x,H⟩:∃x,l[k]=x:=⟨_,rfl⟩;rw [H] at S q m;have c:=Lib.hid (ER x a u wr G m.1 m.2 P.out);have t:s≤wr.heap.size:=by have:=o.out.size;have:=f.out;omega
   clear H A G y m
   cases p:my a x with
   | true=>
    have z:=Lib.hid ((q.out true p).1 rfl);rw [p] at c;clear q p;go_wp2_with (first | (go_at_call 266;refine c.out.mono ?_;rintro e T ⟨rfl,n⟩) | fail)
    go_ret;exact ⟨_,rfl,by omega,by rw [z.out];simp,by rw [f.out];exact o.out.trans (n.mono t)⟩
   | false=>
    have z:=Lib.hid ((q.out false p).2 rfl);rw [p] at c;clear q p;go_wp2_with (first | (go_at_call 266;refine c.out.mono ?_;rintro e T ⟨rfl,n⟩) | fail)
    exact ⟨⟨k+1,by omega,by go_num,z,Lib.hid (o.out.trans (n.mono t))⟩,by simp [intOf];omega⟩
  ·have C:k=l.length:=by omega
   subst C;rw [List.take_length] at y;go_wp2_with fail
   go_ret;exact ⟨_,rfl,by omega,by rw [y.out];rfl,by rw [f.out];exact o.out⟩
theorem pF (l:List ByteArray) (v:Value) (b:Nat) (a:ByteArray) (w:World) (i:bg w v l.length 1 (dK l)) (f:w.cell? ⟨b,0,none⟩=some (.string a)) (o:l.length≤5) (j:∀d∈l,d.size≤255∧oM d) (c:oM a):
  Calls Tryz.prog 265 #[v,.func (.func 266) #[] #[.pointer (some ⟨b,0,none⟩)]] w fun e k=>e= .returned (.bool (l.any (my a)))∧Below w.heap.size w k:=by
 have h:=uj l v b a w i f o j c;clear i f j c;go_enter Tryz.func265,Tryz.ntmps265;go_wp2_with fail
 refine h.mono ?_;rintro e k ⟨r,rfl,p,g,n⟩;have m:=Lib.hid g;clear g h;go_wp2_with fail
 go_ret;exact ⟨by rw [←m.out];rfl,n⟩
theorem vX {l:List UInt8} (h:∀(j:Nat) (b:UInt8),l[j]? =some b→b.toNat < 128):∀(j:Nat) (b:UInt8),(Lib.toLowerA l)[j]? =some b→b.toNat < 128:=by
 intro j b c;unfold Lib.toLowerA at c;rw [List.getElem?_map,Option.map_eq_some_iff] at c;obtain ⟨a,e,rfl⟩:=c;have:=h j a e;unfold Lib.lowerB
 split
 ·rename_i d
  unfold Lib.isUpperB at d;simp only [Bool.and_eq_true,decide_eq_true_eq,UInt8.le_iff_toNat_le,UInt8.reduceToNat] at d;rw [UInt8.toNat_add];simp only [UInt8.reduceToNat];omega
 ·exact this
theorem Cg {l x y:List UInt8} {f:Bool} (h:fq l=(x,y,f)):∀(j:Nat) (b:UInt8),y[j]? =some b→b.toNat < 128:=by
 unfold fq at h
 split at h
 ·rename_i a
  rw [Bool.and_eq_true] at a;injection h with _ h;injection h with h _;rw [←h];exact vX (qK _ a.2)
 ·injection h with _ h;injection h with h _;rw [←h];intro j b c;simp at c
theorem Hq {c:bX} (h:ij c=true):∀d∈c.doms,d.size≤255∧oM d:=by
 have e:=kg h;unfold ij oq nr kG kI at h;simp only [Bool.and_eq_true,decide_eq_true_eq,List.all_eq_true] at h;obtain ⟨⟨⟨⟨⟨⟨⟨⟨f,g,b⟩,_⟩,_⟩,_⟩,_⟩,_⟩,_⟩,_⟩:=h;exact fun d a=>⟨e.domz d a,qK _ (b d a)⟩
def dM (c:bX) (name:List UInt8):Bool:=(fq name).2.2 && c.doms.any (my (bs (fq name).2.1))
theorem sw (c:bX) (U V W X:Value) (a:List UInt8) (m:Int) (w:World) (h:jZ w c U V W X) (S:ij c=true) (hn:a.length≤1048576) (F:w.cell? ⟨0,0,none⟩=some (.int .i64 m)):
  Calls Tryz.prog 238 #[.agg #[.string c.host,U,V,W,.int .i64 c.most,.int .i64 c.size,X,.int .i64 c.life,.int .i64 c.room],.string (bs a)] w fun e w'=>e= .returned (.bool (dM c a))∧Below w.heap.size w w':=by
 obtain ⟨C,D,Y⟩:=aE h.1;obtain ⟨K,O,Z⟩:=aE h.2.1;obtain ⟨L,P,eU⟩:=aE h.2.2.1;obtain ⟨M,Q,eW⟩:=aE h.2.2.2;subst Y Z eU eW;obtain ⟨n,g⟩:∃n:World,w.alloc (.cells #[.string c.host,.slice C c.doms.length D,.slice K c.nets.length O,.slice L c.users.length P,.int .i64 c.most,.int .i64 c.size,.slice M c.waits.length Q,.int .i64 c.life,.int .i64 c.room] 30)=n:=⟨_,rfl⟩;have t:Below w.heap.size w n:=by rw [←g];exact (Below.refl _ _).alloc (Nat.le_refl _) _
 have I:n.heap[w.heap.size]? =some (.cells #[.string c.host,.slice C c.doms.length D,.slice K c.nets.length O,.slice L c.users.length P,.int .i64 c.most,.int .i64 c.size,.slice M c.waits.length Q,.int .i64 c.life,.int .i64 c.room] 30 (0,0)):=by rw [←g];exact heap_alloc_new w _
 have a0:=aG a;have p:=Lib.hid I;have o:=Lib.hid t;have B:=Lib.hid g;have G:=Lib.hid h.1;have A:=Lib.hid S;have T:n.cell? ⟨0,0,none⟩=some (.int .i64 m):=(t.cell (by exact eI F)).trans F;have H:=Lib.hid (vz (bs a) m n (by omega) T);clear h t I g F S T;go_enter Tryz.func238,Tryz.ntmps238;go_wp2_with fail
 rw [B.out];refine H.out.mono ?_;rintro e l ⟨x,y,f,rfl,R,k⟩;have d:Hid (fq a=(x.data.toList,y.data.toList,f)):=Lib.hid (by rw [←R,aI]);have b:=Lib.hid ((o.out.trans (k.mono o.out.size)));have q:=Lib.hid (ae k p.out);clear R k p H
 cases f with
 | false=>
  have z:Hid (dM c a=false):=Lib.hid (by unfold dM;rw [d.out];rfl);go_wp2_with fail
  go_ret;exact ⟨by rw [z.out];rfl,b.out.alloc b.out.size _⟩
 | true=>
  have z:Hid (dM c a=c.doms.any (my y)):=Lib.hid (by unfold dM;rw [d.out];simp only [Bool.true_and];congr 1);obtain ⟨j,r⟩:∃j:World,l.alloc (.cells #[.string y] 9)=j:=⟨_,rfl⟩;have u:Below l.heap.size l j:=by rw [←r];exact (Below.refl _ _).alloc (Nat.le_refl _) _
  have J:j.heap[l.heap.size]? =some (.cells #[.string y] 9 (0,0)):=by rw [←r];exact heap_alloc_new l _
  have N:j.cell? ⟨l.heap.size,0,none⟩=some (.string y):=by rw [Lib.cell_of_heap J];rfl
  have s:=ae u q.out;have y1:j.cell? ⟨w.heap.size,1,none⟩=some (.slice C c.doms.length D):=by rw [Lib.cell_of_heap s];rfl
  have i:=Lib.hid (b.out.trans (u.mono b.out.size));have v:=Lib.hid (pF c.doms _ l.heap.size y j (G.out.below i.out) N (kg A.out).doms (Hq A.out) (Cg d.out));clear u J N s G A d q;go_wp2_with (first | (go_at_call 265;refine v.out.mono ?_;rintro e w9 ⟨rfl,E⟩) | fail)
  go_ret;exact ⟨by rw [z.out];rfl,i.out.trans (E.mono i.out.size)⟩
theorem yD (sb b k:Nat) (C:Array Value) (c:List UInt8) (a:Int) (w:World) (h:bT w sb b C []) (j:C[8]? =some (.pointer (some ⟨k,0,none⟩))):
  Calls Tryz.prog 147 #[.pointer (some ⟨sb,0,none⟩),.string (bs c),.int .i64 a] w fun e f=>e= .returned (.tuple #[])∧bT f sb b C [[53,48,51,32,102,105,114,115,116,13,10]]∧aL b w f:=by
 have g:=Lib.hid (h.tell (by simp) [53,48,51,32,102,105,114,115,116] (by decide));have l:=(h.cell 8).trans j;clear h;go_enter Tryz.func147,Tryz.ntmps147;go_wp2_with fail
 refine g.out.mono ?_;rintro e m ⟨rfl,i,d⟩;go_wp2_with fail
 refine bodyPost_end (results_none rfl _ _ _) rfl ?_;exact ⟨rfl,i,d⟩
theorem yE (sb b f:Nat) (C:Array Value) (c:List UInt8) (a S:Int) (w:World) (h:bT w sb b C []) (l:C[8]? =some (.pointer none)) (j:C[0]? =some (.pointer (some ⟨f,0,none⟩))) (p:w.cell? ⟨f,5,none⟩=some (.int .i64 S)) (m:S < a):
  Calls Tryz.prog 147 #[.pointer (some ⟨sb,0,none⟩),.string (bs c),.int .i64 a] w fun e g=>e= .returned (.tuple #[])∧bT g sb b C [[53,53,50,32,115,105,122,101,13,10]]∧aL b w g:=by
 have i:=Lib.hid (h.tell (by simp) [53,53,50,32,115,105,122,101] (by decide));have o:=(h.cell 8).trans l;have n:=(h.cell 0).trans j;clear h;go_enter Tryz.func147,Tryz.ntmps147;go_wp2_with fail
 refine i.out.mono ?_;rintro e q ⟨rfl,k,d⟩;go_wp2_with fail
 refine bodyPost_end (results_none rfl _ _ _) rfl ?_;exact ⟨rfl,k,d⟩
theorem Ae (sb p D:Nat) (C:Array Value) (b:List UInt8) (f S:Int) (w:World) (h:bT w sb p C []) (B:C[8]? =some (.pointer none)) (F:C[0]? =some (.pointer (some ⟨D,0,none⟩))) (R:w.cell? ⟨D,5,none⟩=some (.int .i64 S)) (K:¬S < f):
  Calls Tryz.prog 147 #[.pointer (some ⟨sb,0,none⟩),.string (bs b),.int .i64 f] w fun e l=>e= .returned (.tuple #[])∧bT l sb p (C.setIfInBounds 8 (.pointer (some ⟨w.heap.size,0,none⟩))) [[50,53,48,32,111,107,13,10]]∧l.heap[w.heap.size]? =some (.cells #[.string (bs b),.slice none 0 0,.pointer none] 216 (0,0))∧(∀k,k < w.heap.size→k≠sb→k≠p→l.heap[k]? =w.heap[k]?)∧dU w l∧w.heap.size≤l.heap.size:=by
 have O:=(h.cell 8).trans B;have N:=(h.cell 0).trans F;have A:sb < w.heap.size:=(Array.getElem?_eq_some_iff.1 h.blk).1;have M:∀o:Obj,(w.alloc o).cell? ⟨sb,8,none⟩=some (.pointer none):=fun o=>by rw [Lib.cell_of_heap ((((Below.refl w.heap.size w).alloc (Nat.le_refl _) o).block sb A).trans h.blk)];exact B
 have P:∀o:Obj,(w.alloc o).frozen? ⟨sb,8,none⟩=false:=fun o=>Lib.frozen_of_heap ((((Below.refl w.heap.size w).alloc (Nat.le_refl _) o).block sb A).trans h.blk) 8;have m:aL sb w (w.setCell ⟨sb,8,none⟩ (.pointer (some ⟨w.heap.size,0,none⟩))):=(aL.refl _ _).setCell _;have t:=h.set 8 (by decide) (.pointer (some ⟨w.heap.size,0,none⟩));obtain ⟨i,j⟩:∃i:World,w.setCell ⟨sb,8,none⟩ (.pointer (some ⟨w.heap.size,0,none⟩))=i:=⟨_,rfl⟩;rw [j] at m t;obtain ⟨n,d⟩:∃n:World,i.alloc (.cells #[.string (bs b),.slice none 0 0,.pointer none] 216)=n:=⟨_,rfl⟩;have q:Below i.heap.size i n:=by rw [←d];exact (Below.refl _ _).alloc (Nat.le_refl _) _
 have z:n.heap[w.heap.size]? =some (.cells #[.string (bs b),.slice none 0 0,.pointer none] 216 (0,0)):=by rw [←d,←m.1];exact heap_alloc_new i _
 have E:=Lib.hid ((t.below q).tell (by simp) [50,53,48,32,111,107] (by decide));have y:p≠w.heap.size:=by obtain ⟨s,r,J⟩:=h.chan;have:=(Array.getElem?_eq_some_iff.1 J).1;omega
 have g:=Lib.hid m;have a:=Lib.hid q;have x:=Lib.hid z;have u:=Lib.hid j;have v:=Lib.hid d;clear h t q z j d m;go_enter Tryz.func147,Tryz.ntmps147;go_wp2_with fail
 rw [u.out,v.out];refine E.out.mono ?_;rintro e T ⟨rfl,H,c⟩;go_wp2_with fail
 refine bodyPost_end (results_none rfl _ _ _) rfl ?_;have L:i.heap.size=w.heap.size:=g.out.1;refine ⟨rfl,H,(c.2 _ (Ne.symm y)).trans x.out,fun k Q G I=>(c.2 k I).trans ((a.out.block k (by omega)).trans (g.out.2 k G)),(g.out.3.trans ⟨a.out.1,a.out.2,a.out.3⟩).trans c.3,?_⟩;rw [c.1];have:=a.out.size;omega
open Go.RowKit Go.Maps Go.Shelf
open Go.WideElems (Fit rd rg)
def kL:Value→Option (DataW Unit×List MemPlace):=fun _=>some (.lit (.bool true),[])
theorem GI {P:Program} {k:TypeId} (b:P.underlying k=some (.int .i64)) (q:Nat→Nat) (i:Nat) (c:i < 4294967296):rd P k kL (nM q i)=some (.int .i64 ((i:Int)+1),.lit (.bool true)):=by
 unfold rd nM;rw [keyOf_int_mk b (a:=(i:Int)+1) (WalkArith.wf_i64 (by omega))];rfl
theorem GJ {P:Program} {k:TypeId} (j:P.underlying k=some (.int .i64)) {q:Nat→Nat} {l:List Nat} {c:Nat} (g:∀i∈l,i < c) (h:l.Nodup) (m:c≤1048576) (n:l.length≤c):Fit P k kL (cO q l) c:=by
 refine ⟨by simp [cO];unfold maxLen;omega,(MapKept.stamped_iff _ _).2 ⟨fun x d=>?_,?_,?_⟩,fun x d=>?_⟩
 ·rw [cT] at d;obtain ⟨i,f,rfl⟩:=List.mem_map.1 d;exact g i f
 ·rw [cT,List.map_map];have:((fun x:MapEntry=>x.born) ∘ nM q)=id:=rfl;rw [this,List.map_id];exact h
 ·rw [cT,List.pairwise_map];refine h.imp fun {a b} hne e=>hne ?_;exact Ef q e
 ·rw [cT] at d;obtain ⟨i,f,rfl⟩:=List.mem_map.1 d;exact ⟨_,GI j q i (by have:=g i f;omega)⟩
def iK (l:List Nat):List Int:=l.map fun (i:Nat)=>(i:Int)+1
theorem EU {P:Program} {k:TypeId} (c:P.underlying k=some (.int .i64)) {q:Nat→Nat} {l:List Nat} (d:∀i∈l,i < 4294967296):(intKeys (DataW.map (((cO q l).toList.map (rg P k kL)).foldr DataW.insert []))).Perm (iK l):=by
 have a:(cO q l).toList.map (rg P k kL)=l.map fun (i:Nat)=>(Lit.int .i64 ((i:Int)+1),(.lit (.bool true):DataW Unit)):=by
  rw [cT,List.map_map];exact List.map_congr_left fun i b=>by show rg P k kL (nM q i)=_;unfold rg;rw [GI c q i (d i b)];rfl
 rw [a];show ((List.foldr DataW.insert [] _).map fun p=>Go.intOf p.1).Perm _;refine ((WideShapes.sorted_perm _).map _).trans ?_;rw [List.map_map];exact List.Perm.refl _
theorem AV {l:List Nat} (e:l.Pairwise (·< ·)) {c:List Int} (h:c.Perm (iK l)):c.mergeSort (fun x y=>decide (x≤y))=iK l:=by
 have d:c.mergeSort leI=(iK l).mergeSort leI:=mergeSort_of_perm_i h;refine d.trans (List.mergeSort_of_pairwise ?_);unfold iK;rw [List.pairwise_map];exact e.imp fun {a b} hab=>by simp only [leI,decide_eq_true_eq];omega
theorem oz (S:bp):S.live.Pairwise (·< ·):=(List.pairwise_lt_range).filter _
theorem uG (S:bp):S.live.length≤S.items.length:=by
 unfold bp.live;have:=List.length_filter_le (fun i=> !(S.stayOf i).isEmpty) (List.range S.items.length)
 rwa [List.length_range] at this
structure aQ where
 i:Nat
 said:Nat
 una:List (Nat×List UInt8)
 wil:List (Nat×List UInt8)
 came:List (Nat×Bool)
def yQ:List UInt8:=[13,10]
def aQ.leave (t:aQ) (l:List (Nat×List UInt8)) (b:Bool):aQ:={t with came:=t.came++l.map fun x=>(x.1,b)}
def aQ.say (t:aQ) (s:Nat) (l:List UInt8):aQ×List UInt8:=({t with said:=s},l++yQ)
def aQ.quit (t:aQ):aQ×List UInt8:=t.say 6 [81,85,73,84]
def aQ.ask (t:aQ):aQ×List UInt8:=
 match t.una with
 | r::_=>t.say 3 ([82,67,80,84,32,84,79,58,60]++r.2++[62])
 | []=>if t.wil=[] then t.quit else t.say 4 [68,65,84,65]
def aQ.hear (host frm sent:List UInt8) (t:aQ) (a:Nat):aQ×List UInt8:=
 if t.said=0 then (if a=2 then t.say 1 ([69,72,76,79,32]++host) else t.quit)
 else if t.said=1 then (if a=2 then t.say 2 ([77,65,73,76,32,70,82,79,77,58,60]++frm++[62]) else t.quit)
 else if t.said=2 then (if a=2 then t.ask else if a=5 then (t.leave t.una false).quit else t.quit)
 else if t.said=3 then
  (if a=2 then ({t with una:=t.una.drop 1,wil:=t.wil++t.una.take 1}:aQ).ask
  else if a=5 then (({t with una:=t.una.drop 1}:aQ).leave (t.una.take 1) false).ask
  else ({t with una:=t.una.drop 1}:aQ).ask)
 else if t.said=4 then (if a=3 then t.say 5 (sent++yQ++[46]) else if a=5 then (t.leave t.wil false).quit else t.quit)
 else (if a=2 then (t.leave t.wil true).quit else if a=5 then (t.leave t.wil false).quit else t.quit)
def aQ.act (t:aQ):List Nat:=(if t.said=6 then [] else (t.una++t.wil).map (·.1))++t.came.map (·.1)
structure dC (L:List (Nat×List UInt8)) (t:aQ):Prop where
 said:t.said≤6
 una:t.said=3→t.una≠[]
 nd:t.act.Nodup
 sub:∀x∈t.act,x∈L.map (·.1)
 room:t.act.length≤L.length
 mem:∀x∈t.una++t.wil,x∈L
theorem dC.le {L:List (Nat×List UInt8)} {t a:aQ} (h:dC L t) (c:a.said≤6) (d:a.said=3→a.una≠[]) (f:∃m:List Nat,m.Perm a.act∧m.Sublist t.act) (e:∀x∈a.una++a.wil,x∈t.una++t.wil):dC L a:=by
 obtain ⟨m,p,s⟩:=f;exact ⟨c,d,p.nodup_iff.1 (h.nd.sublist s),fun x b=>h.sub x (s.subset (p.mem_iff.2 b)),by rw [←p.length_eq];exact Nat.le_trans s.length_le h.room,fun x b=>h.mem x (e x b)⟩
theorem Kf {t:aQ} (h:t.said=6):t.act=t.came.map (·.1):=by unfold aQ.act;rw [if_pos h];rfl
theorem lG {t:aQ} (h:t.said≠6):t.act=(t.una++t.wil).map (·.1)++t.came.map (·.1):=by unfold aQ.act;rw [if_neg h]
theorem nY {L:List (Nat×List UInt8)} {t:aQ} (h:dC L t):dC L t.quit.1:=by
 refine h.le (by show 6≤6;omega) (by show 6=3→_;omega) ⟨_,List.Perm.refl _,?_⟩ (fun x a=>a);rw [Kf (by rfl)];unfold aQ.act;exact List.sublist_append_right _ _
theorem lT {L l:List (Nat×List UInt8)} {t:aQ} (h:dC L t) (a:t.said≠6) (c:l=t.una∨l=t.wil) (b:Bool):dC L (t.leave l b).quit.1:=by
 refine h.le (by show 6≤6;omega) (by show 6=3→_;omega) ⟨l.map (·.1)++t.came.map (·.1),?_,?_⟩ (fun x d=>d)
 ·rw [Kf (by rfl)];show List.Perm _ ((t.came++l.map fun x=>(x.1,b)).map (·.1));rw [List.map_append,List.map_map];exact List.perm_append_comm
 ·rw [lG a];refine List.Sublist.append_right ?_ _;rw [List.map_append]
  rcases c with rfl | rfl
  ·exact List.sublist_append_left _ _
  ·exact List.sublist_append_right _ _
theorem yz {L:List (Nat×List UInt8)} {t:aQ} (h:dC L t) (b:t.said≠6):dC L t.ask.1:=by
 unfold aQ.ask
 split
 ·rename_i r u e
  refine h.le (by show 3≤6;omega) (fun _=>by show t.una≠[];rw [e];simp) ⟨_,List.Perm.refl _,?_⟩ (fun x a=>a);rw [lG b,lG (by show 3≠6;omega)];exact List.Sublist.refl _
 ·split
  ·exact nY h
  ·refine h.le (by show 4≤6;omega) (by show 4=3→_;omega) ⟨_,List.Perm.refl _,?_⟩ (fun x a=>a);rw [lG b,lG (by show 4≠6;omega)];exact List.Sublist.refl _
theorem DF {L:List (Nat×List UInt8)} {t:aQ} (h:dC L t) (b:t.said≠6) (s:Nat) (d:s < 6) (a:s≠3) (l:List UInt8):dC L (t.say s l).1:=by
 refine h.le (by show s≤6;omega) (fun e=>absurd e a) ⟨_,List.Perm.refl _,?_⟩ (fun x c=>c);rw [lG b,lG (by show s≠6;omega)];exact List.Sublist.refl _
theorem Gq {L:List (Nat×List UInt8)} {t:aQ} (h:dC L t) (e:t.said=3):∃r u,t.una=r::u∧dC L {t with said:=4,una:=t.una.drop 1,wil:=t.wil++t.una.take 1}∧dC L (({t with said:=4,una:=t.una.drop 1}:aQ).leave (t.una.take 1) false)∧dC L {t with said:=4,una:=t.una.drop 1}:=by
 have f:=h.una e;obtain ⟨i,d,una,a,b⟩:=t;simp only at e f;subst e
 cases una with
 | nil=>exact absurd rfl f
 | cons r u=>
  refine ⟨r,u,rfl,?_,?_,?_⟩
  ·refine h.le (by show 4≤6;omega) (by show 4=3→_;omega) ⟨_,?_,List.Sublist.refl _⟩ (fun x c=>?_)
   ·show List.Perm (((r::u)++a).map (·.1)++b.map (·.1)) ((u++(a++[r])).map (·.1)++b.map (·.1));refine List.Perm.append_right _ (List.Perm.map _ ?_);rw [←List.append_assoc];exact List.perm_append_singleton r (u++a) |>.symm
   ·have c:x∈u++(a++[r]):=c;show x∈(r::u)++a;simp only [List.mem_append,List.mem_cons,List.not_mem_nil,or_false] at c ⊢
    rcases c with c | c | c
    ·exact .inl (.inr c)
    ·exact .inr c
    ·exact .inl (.inl c)
  ·refine h.le (by show 4≤6;omega) (by show 4=3→_;omega) ⟨_,?_,List.Sublist.refl _⟩ (fun x c=>?_)
   ·show List.Perm (((r::u)++a).map (·.1)++b.map (·.1)) ((u++a).map (·.1)++(b++[(r.1,false)]).map (·.1));rw [List.map_append (l₁:=b),←List.append_assoc];exact List.perm_append_singleton r.1 _ |>.symm
   ·have c:x∈u++a:=c;show x∈(r::u)++a;exact List.mem_cons_of_mem _ c
  ·refine h.le (by show 4≤6;omega) (by show 4=3→_;omega) ⟨_,List.Perm.refl _,?_⟩ (fun x c=>?_)
   ·show List.Sublist ((u++a).map (·.1)++b.map (·.1)) (((r::u)++a).map (·.1)++b.map (·.1));exact List.sublist_cons_self _ _
   ·have c:x∈u++a:=c;show x∈(r::u)++a;exact List.mem_cons_of_mem _ c
theorem Ei {L:List (Nat×List UInt8)} {t:aQ} (h:dC L t) (b:t.said≠6) (c e d:List UInt8) (a:Nat):dC L (t.hear c e d a).1:=by
 unfold aQ.hear
 split
 ·split
  ·exact DF h b 1 (by omega) (by omega) _
  ·exact nY h
 ·split
  ·split
   ·exact DF h b 2 (by omega) (by omega) _
   ·exact nY h
  ·split
   ·split
    ·exact yz h b
    ·split
     ·exact lT h b (.inl rfl) _
     ·exact nY h
   ·split
    ·rename_i f
     obtain ⟨r,u,_,g,i,j⟩:=Gq h f
     split
     ·have:=yz g (by show 4≠6;omega);exact this
     ·split
      ·have:=yz i (by show 4≠6;omega);exact this
      ·have:=yz j (by show 4≠6;omega);exact this
    ·split
     ·split
      ·exact DF h b 5 (by omega) (by omega) _
      ·split
       ·exact lT h b (.inr rfl) _
       ·exact nY h
     ·split
      ·exact lT h b (.inr rfl) _
      ·split
       ·exact lT h b (.inr rfl) _
       ·exact nY h
def aQ.took (t:aQ) (b:Bool):List Nat:=((t.came.filter fun x=>x.2 == b).map (·.1)).mergeSort (fun x y=>decide (x≤y))
theorem oc (t:aQ) (b:Bool):(t.took b).Perm ((t.came.filter fun x=>x.2 == b).map (·.1)):=List.mergeSort_perm _ _
theorem ob {t:aQ} {b:Bool} {x:Nat} (h:x∈t.took b):x∈t.came.map (·.1):=by
 rw [(oc t b).mem_iff,List.mem_map] at h;obtain ⟨y,a,rfl⟩:=h;exact List.mem_map.2 ⟨y,(List.mem_filter.1 a).1,rfl⟩
theorem tU {L:List (Nat×List UInt8)} {t:aQ} (h:dC L t):(t.came.map (·.1)).Nodup:=h.nd.sublist (by unfold aQ.act;exact List.sublist_append_right _ _)
theorem mn {L:List (Nat×List UInt8)} {t:aQ} (h:dC L t) {x:Nat} (k:x∈t.took true) (m:x∈t.took false):False:=by
 rw [(oc t _).mem_iff,List.mem_map] at k m;obtain ⟨y,e,i⟩:=k;obtain ⟨z,f,j⟩:=m;rw [List.mem_filter,beq_iff_eq] at e f;have o:t.came.Pairwise (fun a b=>a.1≠b.1):=List.pairwise_map.1 (tU h)
 have g:∀(l:List (Nat×Bool)),l.Pairwise (fun a b=>a.1≠b.1)→y∈l→z∈l→y=z:=by
  intro l n
  induction n with
  | nil=>intro a;cases a
  | cons ha _ ih=>
   intro a b
   rcases List.mem_cons.1 a with d | d
   ·rcases List.mem_cons.1 b with c | c
    ·rw [d,c]
    ·exact absurd (i.trans j.symm) (by rw [d];exact ha z c)
   ·rcases List.mem_cons.1 b with c | c
    ·exact absurd (j.trans i.symm) (by rw [c];exact ha y d)
    ·exact ih d c
 have:=g _ o e.1 f.1;rw [this] at e;rw [f.2] at e;exact absurd e.2 (by decide)
theorem iu {L:List (Nat×List UInt8)} {t:aQ} (h:dC L t) (b:Bool):(t.took b).Pairwise (·< ·):=by
 have d:(t.took b).Pairwise (fun x y=>decide (x≤y)=true):=List.pairwise_mergeSort (fun a b c d e=>by simp only [decide_eq_true_eq] at *;omega) (fun a b=>by simp only [Bool.or_eq_true,decide_eq_true_eq];omega) _;have e:(t.took b).Nodup:=(oc t b).nodup_iff.2 ((tU h).sublist ((List.filter_sublist).map _))
 exact (d.and e).imp fun {a b} hab=>by
  have:=hab.1;simp only [decide_eq_true_eq] at this;have:=hab.2;omega
theorem kF {L:List (Nat×List UInt8)} {t:aQ} (h:dC L t) (b:Bool):(t.took b).length≤L.length:=by
 rw [(oc t b).length_eq,List.length_map];have c:=List.length_filter_le (fun x:Nat×Bool=>x.2 == b) t.came;have a:=h.room;unfold aQ.act at a;rw [List.length_append,List.length_map] at a;omega
end Go.Proofs.YtofpegbpgkkgkaaGreatDoor
