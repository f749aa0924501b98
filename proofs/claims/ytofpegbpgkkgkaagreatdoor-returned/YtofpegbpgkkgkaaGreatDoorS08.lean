import Derived.Test.YtofpegbpgkkgkaaGreatDoorS05
import Derived.Test.YtofpegbpgkkgkaaGreatDoorS07
import Derived.Test.YtofpegbpgkkgkaaGreatDoorS04
import Derived.Test.YtofpegbpgkkgkaaGreatDoorS06
namespace Go.Proofs.YtofpegbpgkkgkaaGreatDoor
set_option maxHeartbeats 8000000
set_option maxRecDepth 1000000
open Go.RowKit
section
variable {P:Program}
theorem zY (W:World) (t g e:TypeId) (i:TypeInfo) (f:P.underlying t=some (.slice e)) (d:P.info? e=some i) (b:Nat) (a:Option Addr) (c:Nat):
  (Builtin.append_ #[t,t] g #[.slice (some ⟨b,0,none⟩) 0 0,.slice a 0 c]).run P W= .ok (.slice (some ⟨b,0,none⟩) 0 0) W:=by
 cases a <;> simp [Builtin.append_,run_underlying f,sizeOf,typeInfo,d,Builtin.lenOf,Builtin.firstCells,loadCells,loadCellsFrom,storeCells]
theorem kr (W:World) (t E e:TypeId) (z:Value) (f d:Nat) (J:P.underlying t=some (.slice e)) (p:(P.info? e).map (fun i=>(i.zero,i.size,i.bytes))=some (some z,f,d)) (D:z.cells.size=f) (C:0 < f) (b:Nat) (G:W.heap[b]? =some (.cells #[] e (0,0)))
  (v:Value) (n:Nat) (o:List Value) (h:bg W v n f o) (L:∀u∈o,u.oneCell'=true) (U:n≤maxLen) (w:n * d≤140737488355328):
  ∃g q m,(Builtin.append_ #[t,t] E #[.slice (some ⟨b,0,none⟩) 0 0,v]).run P W= .ok (.slice (some ⟨g,0,none⟩) n q) m∧m.ownsRow b e f (.slice (some ⟨g,0,none⟩) n q) n o∧W.grownBy m (some b)∧(g=b∨g=W.heap.size):=by
 obtain ⟨i,H,T,R,S⟩:=info_parts p;have F:W.ownsRow b e f (.slice (some ⟨b,0,none⟩) 0 0) 0 []:=⟨by simp,.inr ⟨b,0,#[],rfl,Nat.le_refl _,G,Nat.le_refl _,by simp,by simp,by simp⟩⟩
 obtain ⟨A,⟨rfl,a,k,rfl⟩ | ⟨r,l,k,rfl,N,M⟩⟩:=h
 ·have x:o=[]:=List.length_eq_zero_iff.1 (by simpa using A);subst x;exact ⟨b,0,W,zY W t E e i J H b a k,F,⟨rfl,rfl,rfl,Nat.le_refl _,fun _ _ _=>rfl⟩,.inl rfl⟩
 ·obtain ⟨V,m,Q,B,O,_,c⟩:=run_append_own_at W b t E e i z f d J H T R S D C (.slice (some ⟨b,0,none⟩) 0 0) 0 [] F ⟨r,l,none⟩ n k o A (fun j u I=>by
   have y:j < n * f:=by
    rw [←A];exact (List.getElem?_eq_some_iff.1 I).1
   rw [show (⟨r,l,none⟩:Addr).add j=⟨r,l+j,none⟩ by simp [Addr.add],M j y,I]) L (by omega) (by simpa using w) (by have:=(Array.getElem?_eq_some_iff.1 G).1;omega)
  rw [Nat.zero_add,List.nil_append] at B
  rcases B.2 with ⟨s,_⟩ | ⟨g,q,K,s,_⟩
  ·rw [s] at c
   rcases c with c | c <;> cases c
  ·subst s;refine ⟨g,q,m,Q,B,O,?_⟩
   rcases c with c | c
   ·injection c with c;exact .inl c
   ·injection c with c;exact .inr c
theorem bB {w:World} {c:Array Oper} {b:List Oper} {o:Oper} {a:Act} {Q:Exit→Act→World→Prop} (d:o.guard=none) (s x:Operand) (t:TypeId)
  (g:o.op= .call {callee:= .builtin .append,args:=#[s,x],argTypes:=#[t,t]}) (v u r:Value) (e:World) (j:a.eval s=v) (k:a.eval x=u) (i:(Builtin.append_ #[t,t] o.type #[v,u]).run P w= .ok r e) (h:wpList P c Q b (a.put o.dst r) e):wpList P c Q (o::b) a w:=
 wpList_plain d fun K f=>by
  unfold Oper.wp execOp;simp only [g,resolve,invoke,builtin,Sem.run_bind,Sem.run_pure,Result.andThen_ok,List.map_toArray,List.map_cons,List.map_nil,j,k,i];exact f _ _ h
end
theorem Cq (l:List ByteArray) (v:Value) (w:World) (h:bg w v l.length 1 (dK l)) (H:l.length≤5):
  Calls Tryz.prog 70 #[v] w fun e z=>∃a c,e= .returned (.slice a l.length c)∧z.ownsRow w.heap.size 9 1 (.slice a l.length c) l.length (dK l)∧Below w.heap.size w z:=by
 obtain ⟨a,f,E⟩:=aE h;subst E
 cases a with
 | none=>
  have i:l.length=0:=by
   rcases h.2 with ⟨i,_⟩ | ⟨b,F,q,e,_⟩
   ·exact i
   ·cases e
  have m:l=[]:=List.length_eq_zero_iff.1 i;subst m;clear h;have G:=fun (w:World) (a:Option Addr) (n c o d:Nat)=>Lib.run_eql_slice_nil (P:=Tryz.prog) w 25 _ a n c o d Tryz.underlying25;go_enter Tryz.func70,Tryz.ntmps70;go_wp2_with fail
  go_ret;exact ⟨none,0,rfl,World.ownsRow_nil _ _ _ _,Below.refl _ _⟩
 | some a=>
  have y:(w.alloc (.cells #[] 9)).heap[w.heap.size]? =some (.cells #[] 9 (0,0)):=heap_alloc_new w _;obtain ⟨g,D,p,x,u,s,j⟩:=kr (P:=Tryz.prog) (w.alloc (.cells #[] 9)) 25 25 9 (.string ⟨#[]⟩) 1 16 Tryz.underlying25 uk rfl (by decide) w.heap.size y (.slice (some a) l.length f) l.length (dK l) (h.below ((Below.refl _ _).alloc (Nat.le_refl _) _)) (Ie l) (by unfold maxLen;omega) (by omega);have r:Below w.heap.size w p:=((Below.refl w.heap.size w).alloc (Nat.le_refl _) _).grown s (by simp) (fun k t=>by injection t with t;omega);have C:=Lib.hid x;have B:=Lib.hid u;have A:=Lib.hid r;clear x u r s j y h;have G:=fun (w:World) (a:Option Addr) (n c o d:Nat)=>Lib.run_eql_slice_nil (P:=Tryz.prog) w 25 _ a n c o d Tryz.underlying25;go_enter Tryz.func70,Tryz.ntmps70
  go_wp2_with (first
   | (at_builtin;refine bB rfl _ _ 25 rfl _ _ (.slice (some ⟨g,0,none⟩) l.length D) p rfl rfl C.out ?_)
   | fail)
  go_ret;exact ⟨_,_,rfl,B.out,A.out⟩
theorem Cr (l:List (Int×Int)) (v:Value) (w:World) (h:bg w v l.length 2 (ik l)) (H:l.length≤5):
  Calls Tryz.prog 71 #[v] w fun e z=>∃a c,e= .returned (.slice a l.length c)∧z.ownsRow w.heap.size 77 2 (.slice a l.length c) l.length (ik l)∧Below w.heap.size w z:=by
 obtain ⟨a,f,E⟩:=aE h;subst E
 cases a with
 | none=>
  have i:l.length=0:=by
   rcases h.2 with ⟨i,_⟩ | ⟨b,F,q,e,_⟩
   ·exact i
   ·cases e
  have m:l=[]:=List.length_eq_zero_iff.1 i;subst m;clear h;have G:=fun (w:World) (a:Option Addr) (n c o d:Nat)=>Lib.run_eql_slice_nil (P:=Tryz.prog) w 26 _ a n c o d Tryz.underlying26;go_enter Tryz.func71,Tryz.ntmps71;go_wp2_with fail
  go_ret;exact ⟨none,0,rfl,World.ownsRow_nil _ _ _ _,Below.refl _ _⟩
 | some a=>
  have y:(w.alloc (.cells #[] 77)).heap[w.heap.size]? =some (.cells #[] 77 (0,0)):=heap_alloc_new w _;obtain ⟨g,D,p,x,u,s,j⟩:=kr (P:=Tryz.prog) (w.alloc (.cells #[] 77)) 26 26 77 (.agg #[.int .i64 0,.int .i64 0]) 2 16 Tryz.underlying26 G3 rfl (by decide) w.heap.size y (.slice (some a) l.length f) l.length (ik l) (h.below ((Below.refl _ _).alloc (Nat.le_refl _) _)) (Ib l) (by unfold maxLen;omega) (by omega);have r:Below w.heap.size w p:=((Below.refl w.heap.size w).alloc (Nat.le_refl _) _).grown s (by simp) (fun k t=>by injection t with t;omega);have C:=Lib.hid x;have B:=Lib.hid u;have A:=Lib.hid r;clear x u r s j y h;have G:=fun (w:World) (a:Option Addr) (n c o d:Nat)=>Lib.run_eql_slice_nil (P:=Tryz.prog) w 26 _ a n c o d Tryz.underlying26;go_enter Tryz.func71,Tryz.ntmps71
  go_wp2_with (first
   | (at_builtin;refine bB rfl _ _ 26 rfl _ _ (.slice (some ⟨g,0,none⟩) l.length D) p rfl rfl C.out ?_)
   | fail)
  go_ret;exact ⟨_,_,rfl,B.out,A.out⟩
theorem Ct (l:List (ByteArray×ByteArray)) (v:Value) (w:World) (h:bg w v l.length 2 (cH l)) (H:l.length≤5):
  Calls Tryz.prog 72 #[v] w fun e z=>∃a c,e= .returned (.slice a l.length c)∧z.ownsRow w.heap.size 79 2 (.slice a l.length c) l.length (cH l)∧Below w.heap.size w z:=by
 obtain ⟨a,f,E⟩:=aE h;subst E
 cases a with
 | none=>
  have i:l.length=0:=by
   rcases h.2 with ⟨i,_⟩ | ⟨b,F,q,e,_⟩
   ·exact i
   ·cases e
  have m:l=[]:=List.length_eq_zero_iff.1 i;subst m;clear h;have G:=fun (w:World) (a:Option Addr) (n c o d:Nat)=>Lib.run_eql_slice_nil (P:=Tryz.prog) w 27 _ a n c o d Tryz.underlying27;go_enter Tryz.func72,Tryz.ntmps72;go_wp2_with fail
  go_ret;exact ⟨none,0,rfl,World.ownsRow_nil _ _ _ _,Below.refl _ _⟩
 | some a=>
  have y:(w.alloc (.cells #[] 79)).heap[w.heap.size]? =some (.cells #[] 79 (0,0)):=heap_alloc_new w _;obtain ⟨g,D,p,x,u,s,j⟩:=kr (P:=Tryz.prog) (w.alloc (.cells #[] 79)) 27 27 79 (.agg #[.string ⟨#[]⟩,.string ⟨#[]⟩]) 2 32 Tryz.underlying27 E9 rfl (by decide) w.heap.size y (.slice (some a) l.length f) l.length (cH l) (h.below ((Below.refl _ _).alloc (Nat.le_refl _) _)) (FA l) (by unfold maxLen;omega) (by omega);have r:Below w.heap.size w p:=((Below.refl w.heap.size w).alloc (Nat.le_refl _) _).grown s (by simp) (fun k t=>by injection t with t;omega);have C:=Lib.hid x;have B:=Lib.hid u;have A:=Lib.hid r;clear x u r s j y h;have G:=fun (w:World) (a:Option Addr) (n c o d:Nat)=>Lib.run_eql_slice_nil (P:=Tryz.prog) w 27 _ a n c o d Tryz.underlying27;go_enter Tryz.func72,Tryz.ntmps72
  go_wp2_with (first
   | (at_builtin;refine bB rfl _ _ 27 rfl _ _ (.slice (some ⟨g,0,none⟩) l.length D) p rfl rfl C.out ?_)
   | fail)
  go_ret;exact ⟨_,_,rfl,B.out,A.out⟩
theorem Cu (l:List Int) (v:Value) (w:World) (h:bg w v l.length 1 (ib l)) (H:l.length≤5):
  Calls Tryz.prog 73 #[v] w fun e z=>∃a c,e= .returned (.slice a l.length c)∧z.ownsRow w.heap.size 3 1 (.slice a l.length c) l.length (ib l)∧Below w.heap.size w z:=by
 obtain ⟨a,f,E⟩:=aE h;subst E
 cases a with
 | none=>
  have i:l.length=0:=by
   rcases h.2 with ⟨i,_⟩ | ⟨b,F,q,e,_⟩
   ·exact i
   ·cases e
  have m:l=[]:=List.length_eq_zero_iff.1 i;subst m;clear h;have G:=fun (w:World) (a:Option Addr) (n c o d:Nat)=>Lib.run_eql_slice_nil (P:=Tryz.prog) w 28 _ a n c o d Tryz.underlying28;go_enter Tryz.func73,Tryz.ntmps73;go_wp2_with fail
  go_ret;exact ⟨none,0,rfl,World.ownsRow_nil _ _ _ _,Below.refl _ _⟩
 | some a=>
  have y:(w.alloc (.cells #[] 3)).heap[w.heap.size]? =some (.cells #[] 3 (0,0)):=heap_alloc_new w _;obtain ⟨g,D,p,x,u,s,j⟩:=kr (P:=Tryz.prog) (w.alloc (.cells #[] 3)) 28 28 3 (.int .i64 0) 1 8 Tryz.underlying28 GZ rfl (by decide) w.heap.size y (.slice (some a) l.length f) l.length (ib l) (h.below ((Below.refl _ _).alloc (Nat.le_refl _) _)) (Ia l) (by unfold maxLen;omega) (by omega);have r:Below w.heap.size w p:=((Below.refl w.heap.size w).alloc (Nat.le_refl _) _).grown s (by simp) (fun k t=>by injection t with t;omega);have C:=Lib.hid x;have B:=Lib.hid u;have A:=Lib.hid r;clear x u r s j y h;have G:=fun (w:World) (a:Option Addr) (n c o d:Nat)=>Lib.run_eql_slice_nil (P:=Tryz.prog) w 28 _ a n c o d Tryz.underlying28;go_enter Tryz.func73,Tryz.ntmps73
  go_wp2_with (first
   | (at_builtin;refine bB rfl _ _ 28 rfl _ _ (.slice (some ⟨g,0,none⟩) l.length D) p rfl rfl C.out ?_)
   | fail)
  go_ret;exact ⟨_,_,rfl,B.out,A.out⟩
theorem JF {w:World} {k:Nat} {o:Obj} (h:w.heap[k]? =some o):k < w.heap.size:=(Array.getElem?_eq_some_iff.1 h).1
theorem ft {w a:World} (b:Below w.heap.size w a) {k:Nat} {o:Obj} (h:w.heap[k]? =some o):a.heap[k]? =some o:=(b.block k (JF h)).trans h
theorem lK {p:Nat} {w b:World} (c:aL p w b) {k:Nat} {o:Obj} (h:w.heap[k]? =some o) (a:k≠p):b.heap[k]? =some o:=(c.2 k a).trans h
theorem yO {w j:World} {a i n:Nat} {e:TypeId} {v:Value} {k:List Value} (h:w.ownsRow a e i v n k) (p:∀g b,w.heap[g]? =some (.cells b e (0,0))→a≤g→j.heap[g]? =some (.cells b e (0,0))):j.ownsRow a e i v n k:=by
 obtain ⟨o,d⟩:=h;refine ⟨o,?_⟩
 rcases d with d | ⟨g,c,b,l,f,m,r⟩
 ·exact .inl d
 ·exact .inr ⟨g,c,b,l,f,p g b m f,r⟩
theorem sU {w:World} {a f i n:Nat} {e:TypeId} {v:Value} {j:List Value} (h:w.ownsRow a e i v n j) (o:f≤a):w.ownsRow f e i v n j:=by
 obtain ⟨m,d⟩:=h;refine ⟨m,?_⟩
 rcases d with d | ⟨g,b,c,k,l,r⟩
 ·exact .inl d
 ·exact .inr ⟨g,b,c,k,Nat.le_trans o l,r⟩
theorem JS {w:World} {a n f:Nat} {e:TypeId} {v:Value} {i:List Value} (h:w.ownsRow a e f v n i):bg w v n f i:=by
 refine ⟨h.1,?_⟩
 rcases h.2 with ⟨b,m⟩ | ⟨g,k,l,b,_,o,c,_,_,d⟩
 ·exact .inl ⟨m,none,0,b⟩
 ·refine .inr ⟨g,0,k,b,c,fun j p=>?_⟩;rw [Nat.zero_add,Lib.cell_of_heap o,←Array.getElem?_toList,←List.getElem?_take_of_lt p,d]
structure Ge (c:bX):Prop where
 host:c.host.size≤255
 doms:c.doms.length≤5
 domz:∀s∈c.doms,s.size≤255
 nets:c.nets.length≤5
 users:c.users.length≤5
 userz:∀x∈c.users,x.1.size≤255∧x.2.size≤255
 waits:c.waits.length≤5
theorem uc {s:ByteArray} (h:jj s.data.toList=true):s.size≤255:=by
 unfold jj at h;simp only [Bool.and_eq_true,decide_eq_true_eq,Array.length_toList] at h;have:s.size=s.data.size:=rfl;omega
theorem rZ {s:ByteArray} (h:mF s.data.toList=true):s.size≤255:=by
 unfold mF cF at h;simp only [Bool.and_eq_true,decide_eq_true_eq,Array.length_toList] at h;have:s.size=s.data.size:=rfl;omega
theorem kg {c:bX} (h:ij c=true):Ge c:=by
 unfold ij oq nr kG kI at h;simp only [Bool.and_eq_true,decide_eq_true_eq,List.all_eq_true] at h;obtain ⟨⟨⟨⟨⟨⟨⟨⟨d,e,f⟩,g,_⟩,i,j⟩,_⟩,_⟩,a,_⟩,_⟩,_⟩:=h;refine ⟨uc d,e,fun s l=>uc (f s l),g,i,fun x m=>?_,?_⟩
 ·obtain ⟨k,b,rfl⟩:=List.getElem_of_mem m;have:=j k (List.mem_range.2 b);unfold mq at this;simp only [Bool.and_eq_true,List.getD_eq_getElem?_getD,List.getElem?_eq_getElem b,Option.getD_some] at this;exact ⟨rZ this.1.1,rZ this.1.2⟩
 ·unfold cF at a;simp only [Bool.and_eq_true,decide_eq_true_eq] at a;omega
theorem kD {W:World} {a n l:Nat} {e:TypeId} {v:Value} {m:List Value} (h:W.ownsRow a e l v n m) {k:Nat} (b:v.ownBlock=some k):a≤k∧k < W.heap.size:=by
 rcases h.2 with ⟨c,_⟩ | ⟨g,d,f,c,i,j,_⟩
 ·rw [c] at b;cases b
 ·rw [c] at b;injection b with b;subst b;exact ⟨i,(Array.getElem?_eq_some_iff.1 j).1⟩
theorem re {W:World} {g a:Nat} {A:Array Value} {t:TypeId} {v:Value} (h:W.heap[g]? =some (.cells A t (0,0))) (d:A[a]? =some v):Below W.heap.size W (W.setCell ⟨g,a,none⟩ v):=by
 have b:aL g W (W.setCell ⟨g,a,none⟩ v):=(aL.refl _ _).setCell _;have f:=heap_setCell_same W g a _ _ v h
 have e:A.setIfInBounds a v=A:=by
  apply Array.ext_getElem?;intro i;rw [Array.getElem?_setIfInBounds]
  split
  ·rename_i j
   subst j;rw [d];simp [(Array.getElem?_eq_some_iff.1 d).1]
  ·rfl
 refine ⟨b.3.1,b.3.2.1,b.3.2.2,by rw [b.1];exact Nat.le_refl _,fun k _=>?_⟩
 by_cases c:k=g
 ·subst c;rw [h,f,e]
 ·exact b.2 k c
structure zM (w W:World) (c:bX) (D N U V:Value):Prop where
 box:W.heap[w.heap.size]? =some (.cells #[.string c.host,D,N,U,.int .i64 c.most,.int .i64 c.size,V,.int .i64 c.life,.int .i64 c.room] 30 (0,0))
 out:W.heap[w.heap.size+1]? =some (.cells #[.string ⟨#[]⟩,.slice none 0 0,.slice none 0 0,.slice none 0 0,.int .i64 0,.int .i64 0,.slice none 0 0,.int .i64 0,.int .i64 0] 30 (0,0))
 below:Below w.heap.size w W
theorem zM.keep {w W b:World} {c:bX} {D N U V:Value} (h:zM w W c D N U V) (a:Below W.heap.size W b):zM w b c D N U V:=
 ⟨ft a h.box,ft a h.out,h.below.trans (a.mono h.below.size)⟩
theorem zM.set {w W:World} {c:bX} {D N U V D' N' U' V':Value} (h:zM w W c D N U V) (j:Nat) (v:Value) (e:(#[.string c.host,D,N,U,.int .i64 c.most,.int .i64 c.size,V,.int .i64 c.life,.int .i64 c.room]:Array Value).setIfInBounds j v=#[.string c.host,D',N',U',.int .i64 c.most,.int .i64 c.size,V',.int .i64 c.life,.int .i64 c.room]):zM w (W.setCell ⟨w.heap.size,j,none⟩ v) c D' N' U' V':=by
 have a:aL w.heap.size W (W.setCell ⟨w.heap.size,j,none⟩ v):=(aL.refl _ _).setCell _;refine ⟨?_,lK a h.out (by omega),h.below.trans (a.below (Nat.le_refl _))⟩;have b:=heap_setCell_same W w.heap.size j _ _ v h.box;rw [e] at b;exact b
theorem zM.big {w W:World} {c:bX} {D N U V:Value} (h:zM w W c D N U V):w.heap.size+2≤W.heap.size:=JF h.out
theorem zM.cell {w W:World} {c:bX} {D N U V:Value} (h:zM w W c D N U V) (j:Nat):W.cell? ⟨w.heap.size,j,none⟩=(#[.string c.host,D,N,U,.int .i64 c.most,.int .i64 c.size,V,.int .i64 c.life,.int .i64 c.room]:Array Value)[j]? :=by rw [Lib.cell_of_heap h.box]
theorem zM.frozen {w W:World} {c:bX} {D N U V:Value} (h:zM w W c D N U V) (j:Nat):W.frozen? ⟨w.heap.size,j,none⟩=false:=Lib.frozen_of_heap h.box j
theorem jN {w W:World} {n a j:Nat} {e:TypeId} {v x:Value} {b:List Value} (h:W.ownsRow (w.heap.size+2) e a v n b):(W.setCell ⟨w.heap.size,j,none⟩ x).ownsRow (w.heap.size+2) e a v n b:=
 yO h fun _ _ e c=>lK ((aL.refl _ _).setCell _) e (by omega)
theorem dV {W b:World} {a n c:Nat} {e:TypeId} {v:Value} {d:List Value} (h:W.ownsRow a e c v n d) (f:Below W.heap.size W b):b.ownsRow a e c v n d:=yO h fun _ _ e _=>ft f e
theorem yN {w W a:World} {n b:Nat} {e:TypeId} {v:Value} {c:List Value} (h:W.ownsRow (w.heap.size+2) e b v n c) (d:aL (w.heap.size+1) W a):bg a v n b c:=
 JS (yO h fun _ _ e f=>lK d e (by omega))
theorem gU {W:World} {b j:Nat} {A A':Array Value} {t:TypeId} {v:Value} (h:W.heap[b]? =some (.cells A t (0,0))) (e:A.setIfInBounds j v=A'):(W.setCell ⟨b,j,none⟩ v).heap[b]? =some (.cells A' t (0,0)):=by
 rw [←e];exact heap_setCell_same W b j _ _ v h
theorem JR {w W a:World} {c:bX} {D N U V:Value} (h:zM w W c D N U V)
  (b:(((((((((W.setCell ⟨w.heap.size+1,0,none⟩ (.string c.host)).setCell ⟨w.heap.size+1,1,none⟩ D).setCell ⟨w.heap.size+1,2,none⟩ N).setCell ⟨w.heap.size+1,3,none⟩ U).setCell ⟨w.heap.size+1,4,none⟩ (.int .i64 c.most)).setCell ⟨w.heap.size+1,5,none⟩ (.int .i64 c.size)).setCell ⟨w.heap.size+1,6,none⟩ V).setCell ⟨w.heap.size+1,7,none⟩ (.int .i64 c.life)).setCell ⟨w.heap.size+1,8,none⟩ (.int .i64 c.room))=a):
  (∀j:Nat,a.cell? ⟨w.heap.size+1,j,none⟩=(#[.string c.host,D,N,U,.int .i64 c.most,.int .i64 c.size,V,.int .i64 c.life,.int .i64 c.room]:Array Value)[j]?)∧aL (w.heap.size+1) W a:=by
 have d:aL (w.heap.size+1) W a:=by rw [←b];exact (((((((((aL.refl _ _).setCell _).setCell _).setCell _).setCell _).setCell _).setCell _).setCell _).setCell _).setCell _
 refine ⟨fun j=>?_,d⟩
 have e:a.heap[w.heap.size+1]? =some (.cells #[.string c.host,D,N,U,.int .i64 c.most,.int .i64 c.size,V,.int .i64 c.life,.int .i64 c.room] 30 (0,0)):=by
  rw [←b];have f:=gU (j:=0) (v:= .string c.host) h.out (A':=#[.string c.host,.slice none 0 0,.slice none 0 0,.slice none 0 0,.int .i64 0,.int .i64 0,.slice none 0 0,.int .i64 0,.int .i64 0]) rfl;have g:=gU (j:=1) (v:=D) f (A':=#[.string c.host,D,.slice none 0 0,.slice none 0 0,.int .i64 0,.int .i64 0,.slice none 0 0,.int .i64 0,.int .i64 0]) rfl;have i:=gU (j:=2) (v:=N) g (A':=#[.string c.host,D,N,.slice none 0 0,.int .i64 0,.int .i64 0,.slice none 0 0,.int .i64 0,.int .i64 0]) rfl;have k:=gU (j:=3) (v:=U) i (A':=#[.string c.host,D,N,U,.int .i64 0,.int .i64 0,.slice none 0 0,.int .i64 0,.int .i64 0]) rfl;have l:=gU (j:=4) (v:= .int .i64 c.most) k (A':=#[.string c.host,D,N,U,.int .i64 c.most,.int .i64 0,.slice none 0 0,.int .i64 0,.int .i64 0]) rfl;have m:=gU (j:=5) (v:= .int .i64 c.size) l (A':=#[.string c.host,D,N,U,.int .i64 c.most,.int .i64 c.size,.slice none 0 0,.int .i64 0,.int .i64 0]) rfl;have n:=gU (j:=6) (v:=V) m (A':=#[.string c.host,D,N,U,.int .i64 c.most,.int .i64 c.size,V,.int .i64 0,.int .i64 0]) rfl;have o:=gU (j:=7) (v:= .int .i64 c.life) n (A':=#[.string c.host,D,N,U,.int .i64 c.most,.int .i64 c.size,V,.int .i64 c.life,.int .i64 0]) rfl;exact gU (j:=8) (v:= .int .i64 c.room) o (A':=#[.string c.host,D,N,U,.int .i64 c.most,.int .i64 c.size,V,.int .i64 c.life,.int .i64 c.room]) rfl
 rw [Lib.cell_of_heap e]
theorem Gw (c:bX) (vD vN vU vW:Value) (w:World) (h:jZ w c vD vN vU vW) (hs:Ge c):
  Calls Tryz.prog 43 #[.agg #[.string c.host,vD,vN,vU,.int .i64 c.most,.int .i64 c.size,vW,.int .i64 c.life,.int .i64 c.room]] w fun e E=>∃uD uN uU uW,e= .returned (.agg #[.string c.host,uD,uN,uU,.int .i64 c.most,.int .i64 c.size,uW,.int .i64 c.life,.int .i64 c.room])∧jZ E c uD uN uU uW∧Below w.heap.size w E∧∀k,(uD.ownBlock=some k∨uN.ownBlock=some k∨uU.ownBlock=some k∨uW.ownBlock=some k)→w.heap.size≤k∧k < E.heap.size:=by
 obtain ⟨aD,cD,n⟩:=aE h.1;obtain ⟨V,X,r⟩:=aE h.2.1;obtain ⟨R,T,o⟩:=aE h.2.2.1;obtain ⟨G,H,I⟩:=aE h.2.2.2;subst n r o I;obtain ⟨W0,b5⟩:∃W0:World,(w.alloc (.cells #[.string c.host,.slice aD c.doms.length cD,.slice V c.nets.length X,.slice R c.users.length T,.int .i64 c.most,.int .i64 c.size,.slice G c.waits.length H,.int .i64 c.life,.int .i64 c.room] 30)).alloc (.cells #[.string ⟨#[]⟩,.slice none 0 0,.slice none 0 0,.slice none 0 0,.int .i64 0,.int .i64 0,.slice none 0 0,.int .i64 0,.int .i64 0] 30)=W0:=⟨_,rfl⟩
 have C0:zM w W0 c (.slice aD c.doms.length cD) (.slice V c.nets.length X) (.slice R c.users.length T) (.slice G c.waits.length H):=by
  rw [←b5];refine ⟨ft ((Below.refl _ _).alloc (Nat.le_refl _) _) (heap_alloc_new w _),?_,((Below.refl _ _).alloc (Nat.le_refl _) _).alloc (by simp) _⟩;have:=heap_alloc_new (w.alloc (.cells #[.string c.host,.slice aD c.doms.length cD,.slice V c.nets.length X,.slice R c.users.length T,.int .i64 c.most,.int .i64 c.size,.slice G c.waits.length H,.int .i64 c.life,.int .i64 c.room] 30)) (.cells #[.string ⟨#[]⟩,.slice none 0 0,.slice none 0 0,.slice none 0 0,.int .i64 0,.int .i64 0,.slice none 0 0,.int .i64 0,.int .i64 0] 30);simpa using this
 have HH:=Lib.hid h;have U:=Lib.hid hs;have c1:=Lib.hid C0;have h1:=Lib.hid b5;have y0:W0.cell? ⟨w.heap.size,0,none⟩=some (.string c.host):=C0.cell 0;clear h hs C0 b5;go_enter Tryz.func43,Tryz.ntmps43;go_wp2_with fail
 rw [h1.out];go_wp2_with fail
 refine (iw c.host W0 (by have:=U.out.host;omega)).mono ?_;rintro e w1 ⟨rfl,d4⟩;have C1:=c1.out.keep d4;have y1:w1.cell? ⟨w.heap.size,1,none⟩=some (.slice aD c.doms.length cD):=C1.cell 1;have z0:w1.cell? ⟨w.heap.size,0,none⟩=some (.string c.host):=C1.cell 0;have f0:=C1.frozen 0;have L:=Lib.hid (C1.set (D':= .slice aD c.doms.length cD) (N':= .slice V c.nets.length X) (U':= .slice R c.users.length T) (V':= .slice G c.waits.length H) 0 (.string c.host) rfl);clear d4 C1 y0 c1;go_wp2_with fail
 obtain ⟨W2,c7⟩:∃W2:World,w1.setCell ⟨w.heap.size,0,none⟩ (.string c.host)=W2:=⟨_,rfl⟩;rw [c7] at L ⊢;clear c7 y1 z0 f0;refine (Cq c.doms _ W2 (HH.out.1.below L.out.below) U.out.doms).mono ?_;rintro e w3 ⟨q,n,rfl,d8,d5⟩;have C3:=L.out.keep d5;have y1:w3.cell? ⟨w.heap.size,1,none⟩=some (.slice aD c.doms.length cD):=C3.cell 1;have f1:=C3.frozen 1;have a2:=Lib.hid (C3.set (D':= .slice q c.doms.length n) (N':= .slice V c.nets.length X) (U':= .slice R c.users.length T) (V':= .slice G c.waits.length H) 1 (.slice q c.doms.length n) rfl);have a4:=Lib.hid (jN (w:=w) (j:=1) (x:= .slice q c.doms.length n) (sU d8 L.out.big));clear d5 C3 d8 L;go_wp2_with fail
 obtain ⟨W4,c8⟩:∃W4:World,w3.setCell ⟨w.heap.size,1,none⟩ (.slice q c.doms.length n)=W4:=⟨_,rfl⟩;rw [c8] at a2 a4 ⊢;clear c8 y1 f1;go_loopw [3,4,18] (fun _ _ i E=>∃k:Nat,k≤c.doms.length∧i= .int .i64 k∧Hid (zM w E c (.slice q c.doms.length n) (.slice V c.nets.length X) (.slice R c.users.length T) (.slice G c.waits.length H))∧Hid (E.ownsRow (w.heap.size+2) 9 1 (.slice q c.doms.length n) c.doms.length (dK c.doms))) (fun _ _ i _=>c.doms.length - (intOf i).toNat)
 case atStart=>exact ⟨0,Nat.zero_le _,rfl,a2,a4⟩
 case round=>
  clear a2 a4;obtain ⟨k,hk,rfl,p,P⟩:=hrel;have h6:c.doms.length≤5:=U.out.doms
  by_cases C:k < c.doms.length
  ·have d7:(k:Int) < (c.doms.length:Int):=by omega
   obtain ⟨g,rfl,b,J,y⟩:∃g,q=some ⟨g,0,none⟩∧∃b:Array Value,wr.heap[g]? =some (.cells b 9 (0,0))∧b[k]? =some (.string c.doms[k]):=by
    rcases P.out.2 with ⟨_,h0⟩ | ⟨g,cp,b,e,_,J,_,_,_,a1⟩
    ·omega
    ·injection e with e1 _ _;refine ⟨g,e1,b,J,?_⟩;rw [←Array.getElem?_toList,←List.getElem?_take_of_lt (show k < c.doms.length * 1 by omega),a1];simp [dK,C]
   have D:=U.out.domz c.doms[k] (List.getElem_mem C);obtain ⟨t,et⟩:∃t,c.doms[k]=t:=⟨_,rfl⟩;rw [et] at y D;clear et;have d0:wr.cell? ⟨g,k,none⟩=some (.string t):=by rw [Lib.cell_of_heap J];exact y
   have y1:wr.cell? ⟨w.heap.size,1,none⟩=some (.slice (some ⟨g,0,none⟩) c.doms.length n):=p.out.cell 1;have g4:=Lib.hid (iw t wr.drew (by omega));have c3:=Lib.hid y;have HG:Hid (wr.drew.heap[g]? =some (.cells b 9 (0,0))):=Lib.hid J;have z:Hid (zM w wr.drew c (.slice (some ⟨g,0,none⟩) c.doms.length n) (.slice V c.nets.length X) (.slice R c.users.length T) (.slice G c.waits.length H)):=Lib.hid (p.out.keep ((Below.refl _ _).drew));have a7:Hid (wr.drew.ownsRow (w.heap.size+2) 9 1 (.slice (some ⟨g,0,none⟩) c.doms.length n) c.doms.length (dK c.doms)):=Lib.hid (dV P.out ((Below.refl _ _).drew));have i1:wr.drew.cell? ⟨w.heap.size,1,none⟩=some (.slice (some ⟨g,0,none⟩) c.doms.length n):=z.out.cell 1;clear y J p P D;go_wp2_with fail
   go_region_law (first
    | (go_simp;go_at_call 69;refine g4.out.mono ?_;rintro e d ⟨rfl,a⟩;have f:=z.out.keep a;have O9:=dV a7.out a;have g9:=ft a HG.out;have d9:d.cell? ⟨g,k,none⟩=some (.string t):=(by rw [Lib.cell_of_heap g9];exact c3.out);have f9:=Lib.frozen_of_heap g9 k;have i2:d.cell? ⟨w.heap.size,1,none⟩=some (.slice (some ⟨g,0,none⟩) c.doms.length n):=f.cell 1;have c2:=Lib.hid f;have g6:=Lib.hid O9;have g5:=Lib.hid g9;clear f O9 g9 a;dsimp only))
   all_goals
    go_wp2_with fail
    have f7:=re g5.out c3.out;exact ⟨⟨k+1,by omega,by go_num,Lib.hid (c2.out.keep f7),Lib.hid (dV g6.out f7)⟩,by simp [intOf];omega⟩
  ·have b8:k=c.doms.length:=by omega
   subst b8;have y2:wr.cell? ⟨w.heap.size,2,none⟩=some (.slice V c.nets.length X):=p.out.cell 2;go_wp2_with fail
   refine (Cr c.nets _ wr (HH.out.2.1.below p.out.below) U.out.nets).mono ?_;rintro e w5 ⟨B,r,rfl,e9,b7⟩;have C5:=p.out.keep b7;have y2:w5.cell? ⟨w.heap.size,2,none⟩=some (.slice V c.nets.length X):=C5.cell 2;have y3:w5.cell? ⟨w.heap.size,3,none⟩=some (.slice R c.users.length T):=C5.cell 3;have f2:=C5.frozen 2;have M:=Lib.hid (C5.set (D':= .slice q c.doms.length n) (N':= .slice B c.nets.length r) (U':= .slice R c.users.length T) (V':= .slice G c.waits.length H) 2 (.slice B c.nets.length r) rfl);have a5:=Lib.hid (jN (w:=w) (j:=2) (x:= .slice B c.nets.length r) (dV P.out b7));have a9:=Lib.hid (jN (w:=w) (j:=2) (x:= .slice B c.nets.length r) (sU e9 p.out.big));clear b7 C5 e9 p P;go_wp2_with fail
   obtain ⟨W6,c9⟩:∃W6:World,w5.setCell ⟨w.heap.size,2,none⟩ (.slice B c.nets.length r)=W6:=⟨_,rfl⟩;rw [c9] at M a5 a9 ⊢;clear c9 y2 y3 f2;refine (Ct c.users _ W6 (HH.out.2.2.1.below M.out.below) U.out.users).mono ?_;rintro e w7 ⟨u,o,rfl,f4,a0⟩;have C7:=M.out.keep a0;have y3:w7.cell? ⟨w.heap.size,3,none⟩=some (.slice R c.users.length T):=C7.cell 3;have f3:=C7.frozen 3;have a3:=Lib.hid (C7.set (D':= .slice q c.doms.length n) (N':= .slice B c.nets.length r) (U':= .slice u c.users.length o) (V':= .slice G c.waits.length H) 3 (.slice u c.users.length o) rfl);have a6:=Lib.hid (jN (w:=w) (j:=3) (x:= .slice u c.users.length o) (dV a5.out a0));have b0:=Lib.hid (jN (w:=w) (j:=3) (x:= .slice u c.users.length o) (dV a9.out a0));have b2:=Lib.hid (jN (w:=w) (j:=3) (x:= .slice u c.users.length o) (sU f4 M.out.big));clear a0 C7 f4 M a5 a9;go_wp2_with fail
   obtain ⟨W8,d2⟩:∃W8:World,w7.setCell ⟨w.heap.size,3,none⟩ (.slice u c.users.length o)=W8:=⟨_,rfl⟩;rw [d2] at a3 a6 b0 b2 ⊢;clear d2 y3 f3;go_loopw [5,6,41] (fun _ _ i E=>∃k:Nat,k≤c.users.length∧i= .int .i64 k∧Hid (zM w E c (.slice q c.doms.length n) (.slice B c.nets.length r) (.slice u c.users.length o) (.slice G c.waits.length H))∧Hid (E.ownsRow (w.heap.size+2) 9 1 (.slice q c.doms.length n) c.doms.length (dK c.doms))∧Hid (E.ownsRow (w.heap.size+2) 77 2 (.slice B c.nets.length r) c.nets.length (ik c.nets))∧Hid (E.ownsRow (w.heap.size+2) 79 2 (.slice u c.users.length o) c.users.length (cH c.users))) (fun _ _ i _=>c.users.length - (intOf i).toNat)
   case atStart=>exact ⟨0,Nat.zero_le _,rfl,a3,a6,b0,b2⟩
   case round=>
    clear a3 a6 b0 b2;obtain ⟨k,hk,rfl,p,P,HP,HQ⟩:=hrel;have h7:c.users.length≤5:=U.out.users
    by_cases C:k < c.users.length
    ·have d7:(k:Int) < (c.users.length:Int):=by omega
     obtain ⟨g,rfl,b,J,l,m⟩:∃g,u=some ⟨g,0,none⟩∧∃b:Array Value,wr.heap[g]? =some (.cells b 79 (0,0))∧b[k * 2]? =some (.string c.users[k].1)∧b[k * 2+1]? =some (.string c.users[k].2):=by
      rcases HQ.out.2 with ⟨_,h0⟩ | ⟨g,cp,b,e,_,J,_,_,_,a1⟩
      ·omega
      ·injection e with e1 _ _;refine ⟨g,e1,b,J,?_,?_⟩
       ·rw [←Array.getElem?_toList,←List.getElem?_take_of_lt (show k * 2 < c.users.length * 2 by omega),a1];exact tp _ k C
       ·rw [←Array.getElem?_toList,←List.getElem?_take_of_lt (show k * 2+1 < c.users.length * 2 by omega),a1];exact qD _ k C
     have D:=U.out.userz c.users[k] (List.getElem_mem C);obtain ⟨t,et⟩:∃t,c.users[k]=t:=⟨_,rfl⟩;rw [et] at l m D;obtain ⟨t0,O⟩:=t;simp only at l m D;clear et;have d0:wr.cell? ⟨g,k * 2,none⟩=some (.string t0):=by rw [Lib.cell_of_heap J];exact l
     have d1:wr.cell? ⟨g,k * 2+1,none⟩=some (.string O):=by rw [Lib.cell_of_heap J];exact m
     obtain ⟨s,Z⟩:∃s:World,wr.alloc (.cells #[.string t0,.string O] 79)=s:=⟨_,rfl⟩;have B1:Below wr.heap.size wr s:=by rw [←Z];exact (Below.refl _ _).alloc (Nat.le_refl _) _
     have X1:s.heap[wr.heap.size]? =some (.cells #[.string t0,.string O] 79 (0,0)):=by rw [←Z];exact heap_alloc_new wr _
     have D1:Below wr.heap.size wr s.drew:=B1.drew;have z:=Lib.hid (p.out.keep D1);have a7:=Lib.hid (dV P.out D1);have g7:=Lib.hid (dV HP.out D1);have g8:=Lib.hid (dV HQ.out D1);have HG:Hid (s.drew.heap[g]? =some (.cells b 79 (0,0))):=Lib.hid (ft D1 J);have HX:Hid (s.drew.heap[wr.heap.size]? =some (.cells #[.string t0,.string O] 79 (0,0))):=Lib.hid X1;have y3:s.cell? ⟨w.heap.size,3,none⟩=some (.slice (some ⟨g,0,none⟩) c.users.length o):=(p.out.keep B1).cell 3;have i3:s.drew.cell? ⟨w.heap.size,3,none⟩=some (.slice (some ⟨g,0,none⟩) c.users.length o):=z.out.cell 3;have x0:s.cell? ⟨wr.heap.size,0,none⟩=some (.string t0):=by rw [Lib.cell_of_heap X1];rfl
     have x1:s.cell? ⟨wr.heap.size,1,none⟩=some (.string O):=by rw [Lib.cell_of_heap X1];rfl
     have h8:s.drew.cell? ⟨wr.heap.size,0,none⟩=some (.string t0):=x0;have h9:s.drew.cell? ⟨wr.heap.size,1,none⟩=some (.string O):=x1;have f8:=Lib.hid (iw t0 s.drew (by omega));have g0:Hid (∀W:World,Calls Tryz.prog 69 #[.string O] W fun e E=>e= .returned (.string O)∧Below W.heap.size W E):=Lib.hid (fun W=>iw O W (by omega));have c5:=Lib.hid l;have c6:=Lib.hid m;have h2:=Lib.hid Z;clear l m J p P HP HQ D Z B1 X1 D1;go_wp2_with fail
     rw [h2.out]
     go_region_law (first
      | (go_simp;go_at_call 69;refine f8.out.mono ?_;rintro e d ⟨rfl,a⟩;have f:=z.out.keep a;have X9:=ft a HX.out;have i4:d.cell? ⟨w.heap.size,3,none⟩=some (.slice (some ⟨g,0,none⟩) c.users.length o):=f.cell 3;have i0:d.cell? ⟨wr.heap.size,1,none⟩=some (.string O):=(by rw [Lib.cell_of_heap X9];rfl);have c2:=Lib.hid f;have c0:=Lib.hid a;clear f X9 a;dsimp only)
      | (go_simp;go_at_call 69;refine (g0.out d).mono ?_;rintro e wa ⟨rfl,d6⟩;have K:=Lib.hid (c0.out.trans (d6.mono c0.out.size));have Ca:=z.out.keep K.out;have ga:=ft K.out HG.out;have da:wa.cell? ⟨g,k * 2,none⟩=some (.string t0):=(by rw [Lib.cell_of_heap ga];exact c5.out);have h4:wa.cell? ⟨g,k * 2+1,none⟩=some (.string O):=(by rw [Lib.cell_of_heap ga];exact c6.out);have fa:=Lib.frozen_of_heap ga (k * 2);have h5:=Lib.frozen_of_heap ga (k * 2+1);have i5:wa.cell? ⟨w.heap.size,3,none⟩=some (.slice (some ⟨g,0,none⟩) c.users.length o):=Ca.cell 3;have N:=Lib.hid Ca;have c4:=Lib.hid ga;clear Ca ga d6;dsimp only))
     all_goals
      go_wp2_with fail
      have s1:=re c4.out c5.out;have s2:=s1.trans ((re (ft s1 c4.out) c6.out).mono s1.size);exact ⟨⟨k+1,by omega,by go_num,Lib.hid (N.out.keep s2),Lib.hid (dV (dV a7.out K.out) s2),Lib.hid (dV (dV g7.out K.out) s2),Lib.hid (dV (dV g8.out K.out) s2)⟩,by simp [intOf];omega⟩
    ·have b8:k=c.users.length:=by omega
     subst b8;have y6:wr.cell? ⟨w.heap.size,6,none⟩=some (.slice G c.waits.length H):=p.out.cell 6;go_wp2_with fail
     refine (Cu c.waits _ wr (HH.out.2.2.2.below p.out.below) U.out.waits).mono ?_;rintro e d ⟨S,I,rfl,f5,a⟩;have f:=p.out.keep a;have y6:d.cell? ⟨w.heap.size,6,none⟩=some (.slice G c.waits.length H):=f.cell 6;have f6:=f.frozen 6;have N:=Lib.hid (f.set (D':= .slice q c.doms.length n) (N':= .slice B c.nets.length r) (U':= .slice u c.users.length o) (V':= .slice S c.waits.length I) 6 (.slice S c.waits.length I) rfl);have a8:=Lib.hid (jN (w:=w) (j:=6) (x:= .slice S c.waits.length I) (dV P.out a));have b1:=Lib.hid (jN (w:=w) (j:=6) (x:= .slice S c.waits.length I) (dV HP.out a));have b3:=Lib.hid (jN (w:=w) (j:=6) (x:= .slice S c.waits.length I) (dV HQ.out a));have b4:=Lib.hid (jN (w:=w) (j:=6) (x:= .slice S c.waits.length I) (sU f5 p.out.big));have Y:=fun j=>f.cell j;have k0:d.cell? ⟨w.heap.size,0,none⟩=some (.string c.host):=Y 0;have k1:d.cell? ⟨w.heap.size,1,none⟩=some (.slice q c.doms.length n):=Y 1;have k2:d.cell? ⟨w.heap.size,2,none⟩=some (.slice B c.nets.length r):=Y 2;have k3:d.cell? ⟨w.heap.size,3,none⟩=some (.slice u c.users.length o):=Y 3;have k4:d.cell? ⟨w.heap.size,4,none⟩=some (.int .i64 c.most):=Y 4;have k5:d.cell? ⟨w.heap.size,5,none⟩=some (.int .i64 c.size):=Y 5;have k7:d.cell? ⟨w.heap.size,7,none⟩=some (.int .i64 c.life):=Y 7;have k8:d.cell? ⟨w.heap.size,8,none⟩=some (.int .i64 c.room):=Y 8;have m0:d.cell? ⟨w.heap.size+1,0,none⟩=some (.string ⟨#[]⟩):=by rw [Lib.cell_of_heap f.out];rfl
     have m1:d.cell? ⟨w.heap.size+1,1,none⟩=some (.slice none 0 0):=by rw [Lib.cell_of_heap f.out];rfl
     have m2:d.cell? ⟨w.heap.size+1,2,none⟩=some (.slice none 0 0):=by rw [Lib.cell_of_heap f.out];rfl
     have m3:d.cell? ⟨w.heap.size+1,3,none⟩=some (.slice none 0 0):=by rw [Lib.cell_of_heap f.out];rfl
     have m4:d.cell? ⟨w.heap.size+1,4,none⟩=some (.int .i64 0):=by rw [Lib.cell_of_heap f.out];rfl
     have m5:d.cell? ⟨w.heap.size+1,5,none⟩=some (.int .i64 0):=by rw [Lib.cell_of_heap f.out];rfl
     have m6:d.cell? ⟨w.heap.size+1,6,none⟩=some (.slice none 0 0):=by rw [Lib.cell_of_heap f.out];rfl
     have m7:d.cell? ⟨w.heap.size+1,7,none⟩=some (.int .i64 0):=by rw [Lib.cell_of_heap f.out];rfl
     have m8:d.cell? ⟨w.heap.size+1,8,none⟩=some (.int .i64 0):=by rw [Lib.cell_of_heap f.out];rfl
     have ff:∀j:Nat,d.frozen? ⟨w.heap.size+1,j,none⟩=false:=fun j=>Lib.frozen_of_heap f.out j;clear Y a f f5 p P HP HQ;go_wp2_with fail
     obtain ⟨Wa,d3⟩:∃Wa:World,d.setCell ⟨w.heap.size,6,none⟩ (.slice S c.waits.length I)=Wa:=⟨_,rfl⟩;rw [d3] at N a8 b1 b3 b4 ⊢;obtain ⟨F,b6⟩:∃F:World,(((((((((Wa.setCell ⟨w.heap.size+1,0,none⟩ (.string c.host)).setCell ⟨w.heap.size+1,1,none⟩ (.slice q c.doms.length n)).setCell ⟨w.heap.size+1,2,none⟩ (.slice B c.nets.length r)).setCell ⟨w.heap.size+1,3,none⟩ (.slice u c.users.length o)).setCell ⟨w.heap.size+1,4,none⟩ (.int .i64 c.most)).setCell ⟨w.heap.size+1,5,none⟩ (.int .i64 c.size)).setCell ⟨w.heap.size+1,6,none⟩ (.slice S c.waits.length I)).setCell ⟨w.heap.size+1,7,none⟩ (.int .i64 c.life)).setCell ⟨w.heap.size+1,8,none⟩ (.int .i64 c.room))=F:=⟨_,rfl⟩;rw [b6];obtain ⟨Q,Sf⟩:=JR N.out b6;have A:=Lib.hid Sf;have e0:F.cell? ⟨w.heap.size+1,0,none⟩=some (.string c.host):=Q 0;have e1:F.cell? ⟨w.heap.size+1,1,none⟩=some (.slice q c.doms.length n):=Q 1;have e2:F.cell? ⟨w.heap.size+1,2,none⟩=some (.slice B c.nets.length r):=Q 2;have e3:F.cell? ⟨w.heap.size+1,3,none⟩=some (.slice u c.users.length o):=Q 3;have e4:F.cell? ⟨w.heap.size+1,4,none⟩=some (.int .i64 c.most):=Q 4;have e5:F.cell? ⟨w.heap.size+1,5,none⟩=some (.int .i64 c.size):=Q 5;have e6:F.cell? ⟨w.heap.size+1,6,none⟩=some (.slice S c.waits.length I):=Q 6;have e7:F.cell? ⟨w.heap.size+1,7,none⟩=some (.int .i64 c.life):=Q 7;have e8:F.cell? ⟨w.heap.size+1,8,none⟩=some (.int .i64 c.room):=Q 8;clear b6 d3 Q Sf;refine bodyPost_ret (v:= .agg #[.string c.host,.slice q c.doms.length n,.slice B c.nets.length r,.slice u c.users.length o,.int .i64 c.most,.int .i64 c.size,.slice S c.waits.length I,.int .i64 c.life,.int .i64 c.room]) (by simp [results,Tryz.results43,go_sem,e0,e1,e2,e3,e4,e5,e6,e7,e8]) rfl ?_
     exact ⟨_,_,_,_,rfl,⟨yN a8.out A.out,yN b1.out A.out,yN b3.out A.out,yN b4.out A.out⟩,N.out.below.trans (A.out.below (by omega)),fun k e=>by
      have h3:F.heap.size=Wa.heap.size:=A.out.1;rw [h3]
      rcases e with e | e | e | e
      ·have:=kD a8.out e;omega
      ·have:=kD b1.out e;omega
      ·have:=kD b3.out e;omega
      ·have:=kD b4.out e;omega⟩
theorem oP (b:World) (B a n:Nat) (l:List UInt8) (f:l.length=n) (e:∀(j:Nat),j < n→b.cell? ⟨B,j,none⟩=some (.int .u8 ((l.getD j 0).toNat:Int))):
  (convert 114 9 (.slice (some ⟨B,0,none⟩) n a)).run Tryz.prog b= .ok (.string ⟨l.toArray⟩) b:=by
 subst f;refine run_convert_bytes_back (P:=Tryz.prog) b 114 9 5 ⟨B,0,none⟩ a l Tryz.underlying114 Tryz.underlying5 Tryz.underlying9 (fun j c=>?_)
 have d:(Addr.add ⟨B,0,none⟩ j)=⟨B,j,none⟩:=by
  unfold Addr.add;simp <;> omega
 rw [d,e j c,List.getD_eq_getElem?_getD,List.getElem?_eq_getElem c];rfl
section
variable {P:Program} (w:World)
theorem gC (t J:TypeId) (h:Nat) (e:TypeId) (i:TypeInfo) (z:Value) (b d:Nat) (Q:P.underlying t=some (.slice e)) (M:P.info? e=some i) (W:i.zero=some z)
  (s:i.size=b) (G:i.bytes=d) (S:z.cells.size=b) (O:0 < b)
  (v:Value) (n:Nat) (K:List Value) (p:w.ownsRow h e b v n K)
  (B:Addr) (m c:Nat) (a:List Value) (I:a.length=m * b) (f:∀j u,a[j]? =some u→w.cell? (B.add j)=some u) (T:∀u∈a,u.oneCell'=true)
  (hm:0 < m) (F:n+m≤maxLen) (o:(n+m) * d≤140737488355328) (y:h≤w.heap.size):
  ∃g x A,(Builtin.append_ #[t,t] J #[v,.slice (some B) m c]).run P w= .ok (.slice (some ⟨g,0,none⟩) (n+m) x) A∧
   A.ownsRow h e b (.slice (some ⟨g,0,none⟩) (n+m) x) (n+m) (K++a)∧((v.ownBlock=some g∧w.grownBy A (some g))∨(g=w.heap.size∧w.grownBy A none)):=by
 obtain ⟨g,x,A,N,X,U,E,h5⟩:=run_append_lies (P:=P) w t J h e i z b d Q M W s G S O v n K p B m c a I f T hm F o y w.heap.size rfl;refine ⟨g,x,A,N,X,?_⟩
 rcases p.2 with ⟨rfl,_⟩ | ⟨D,l,C,rfl,Y,hg,a0,Z,L,R⟩
 ·rcases E with E | E
  ·cases E
  ·exact .inr ⟨E,U⟩
 ·have hb:(Value.slice (some ⟨D,0,none⟩) n l).ownBlock=some D:=rfl;subst s
  by_cases r:n+m≤l
  ·have H:n * i.size+a.length≤C.size:=by rw [I,L,←Nat.add_mul];exact Nat.mul_le_mul_right _ r
   have q:=run_append_room (P:=P) w t J e i Q M D n l C hg B m c a I f T r H;rw [N] at q;injection q with e1 e2;injection e1 with e1 _ _;injection e1 with e1;injection e1 with e1 _;subst e1;exact .inl ⟨rfl,U⟩
  ·subst G;have q:=run_append_grow (P:=P) w t J e i z Q M W ⟨D,0,none⟩ n l K p.1 (p.cells (g:=D) rfl) B m c a I f (by omega) (by simp only [maxLen] at F;omega) (growslice_fits (by omega) o);rw [N] at q;injection q with e1 e2;injection e1 with e1 _ _;injection e1 with e1;injection e1 with e1 _;subst e1;rw [e2];exact .inr ⟨rfl,⟨rfl,rfl,rfl,by simp,fun k V _=>(by first | exact heap_alloc_old w.drew _ k V | exact heap_alloc_old w.drew _ V)⟩⟩
end
theorem gD {P:Program} {w:World} {b:Array Oper} {o:Oper} {a:Act} {K:Act→World→Prop} {Q:Exit→Act→World→Prop} {E:Prop} (c:o.guard=none) (s x:Operand) (t u:TypeId)
  (e:o.op= .call {callee:= .builtin .append,args:=#[s,x],argTypes:=#[t,u]}) (v y r:Value) (d:World) (g:a.eval s=v) (j:a.eval x=y) (f:(Builtin.append_ #[t,u] o.type #[v,y]).run P w= .ok r d) (h:K (a.put o.dst r) d):
  if Region.wanted o (yielded b a.tmps)=true then Oper.wp P o a w K Q else E:=by
 have i:Region.wanted o (yielded b a.tmps)=true:=by simp [Region.wanted,c]
 rw [if_pos i];unfold Oper.wp execOp;simp only [e,resolve,invoke,builtin,Sem.run_bind,Sem.run_pure,Result.andThen_ok,List.map_toArray,List.map_cons,List.map_nil,g,j,f];exact h
structure dW where
 text:List UInt8
 has:Bool
 bad:Bool
def jP:List UInt8→List UInt8
 | []=>[]
 | x::l=>if x=46 then l else x::l
theorem vY (l:List UInt8):(jP l).length≤l.length:=by
 cases l with
 | nil=>exact Nat.le_refl _
 | cons x l=>
  show (if x=46 then l else x::l).length≤_
  split <;> simp
theorem vZ (l:List UInt8):Lib.trimPrefix l [46]=jP l:=by
 cases l with
 | nil=>rfl
 | cons x l=>
  unfold Lib.trimPrefix Lib.hasPrefix jP
  by_cases h:x=46
  ·subst h;simp [List.isPrefixOf]
  ·have:(46:UInt8)≠x:=fun e=>h e.symm;simp [List.isPrefixOf,this,h]
def dW.add (B:dW) (t:List UInt8) (isBad:Bool) (size:Int):dW:=
 if size < (B.text.length:Int) then {B with bad:=B.bad || isBad} else ⟨(if B.has then B.text++[13,10] else B.text)++jP t,true,B.bad || isBad⟩
structure gl (w:World) (bb:Nat) (vt:Value) (B:dW):Prop where
 blk:w.heap[bb]? =some (.cells #[vt,.bool B.has,.bool B.bad] 253 (0,0))
 row:w.ownsRowF 0 5 1 vt B.text.length (Lib.byteCells B.text)
theorem DE {w:World} {b i n:Nat} {e:TypeId} {v:Value} {j:List Value} (h:w.ownsRowF b e i v n j):∃a m c,v= .slice a m c:=by
 rcases h.2 with ⟨e,_⟩ | ⟨g,d,f,k,e,_⟩
 ·exact ⟨_,_,_,e⟩
 ·exact ⟨_,_,_,e⟩
theorem Mk {w:World} {b j n:Nat} {e:TypeId} {v:Value} {k:List Value} (h:w.ownsRowF b e j v n k):∃a c,v= .slice a n c:=by
 rcases h.2 with ⟨e,i⟩ | ⟨g,d,f,l,e,_⟩
 ·exact ⟨none,0,by rw [e,i]⟩
 ·exact ⟨_,_,e⟩
theorem gB {w:World} {b j n g:Nat} {e:TypeId} {v:Value} {k:List Value} (h:w.ownsRowF b e j v n k) (a:v.ownBlock=some g):∃c z,w.heap[g]? =some (.cells c e z):=by
 rcases h.2 with ⟨d,_⟩ | ⟨m,f,c,l,d,_,i,_⟩
 ·rw [d] at a;cases a
 ·rw [d] at a;injection a with a;subst a;exact ⟨_,_,i⟩
theorem BA {A:Nat→Prop} {w i:World} {a f n:Nat} {e:TypeId} {v:Value} {j:List Value} (h:w.ownsRowF a e f v n j) (o:aH A w i) (p:∀g,v.ownBlock=some g→¬A g):i.ownsRowF a e f v n j:=by
 refine ⟨h.1,?_⟩
 rcases h.2 with h | ⟨g,b,c,m,d,k,l,r⟩
 ·exact .inl h
 ·exact .inr ⟨g,b,c,m,d,k,o.some_ l (p g (by rw [d];rfl)),r⟩
theorem gl.far {w:World} {a:Nat} {c:Value} {B:dW} (h:gl w a c B):c.ownBlock≠some a:=fun e=>by
 obtain ⟨d,z,b⟩:=gB h.row e;rw [h.blk] at b;simp at b
theorem gl.chg {A:Nat→Prop} {w d:World} {a:Nat} {b:Value} {B:dW} (h:gl w a b B) (c:aH A w d) (e:¬A a) (f:∀g,b.ownBlock=some g→¬A g):gl d a b B:=⟨c.some_ h.blk e,BA h.row c f⟩
theorem gl.app {w:World} {b:Nat} {g:Value} {B:dW} (h:gl w b g B) (l:List UInt8) (x:B.text.length+l.length≤140737488355328):
  ∃a n c o,(Builtin.append_ #[114,9] 114 #[g,.string (bs l)]).run Tryz.prog w= .ok (.slice a n c) o∧gl (o.setCell ⟨b,0,none⟩ (.slice a n c)) b (.slice a n c) ⟨B.text++l,B.has,B.bad⟩∧o.heap[b]? =some (.cells #[g,.bool B.has,.bool B.bad] 253 (0,0))∧aH (fun k=>g.ownBlock=some k) w o∧∀k,(Value.slice a n c).ownBlock=some k→g.ownBlock=some k∨w.heap.size≤k:=by
 obtain ⟨i,C,s,t,u⟩:=info_parts lx;have q:=aG l;obtain ⟨D,m,p,f,j,r⟩:=jW (P:=Tryz.prog) w 0 114 9 114 5 i Tryz.underlying114 Tryz.underlying9 C s t u g B.text.length (Lib.byteCells B.text) h.row (bs l) (by unfold maxLen;omega) (by omega) (Nat.zero_le _);obtain ⟨a,n,c,rfl⟩:=DE f;have d:m.heap[b]? =some (.cells #[g,.bool B.has,.bool B.bad] 253 (0,0)):=(j.block b (ah h.blk) (fun e=>h.far e.symm)).trans h.blk;refine ⟨a,n,c,m,p,⟨heap_setCell_same m b 0 _ _ _ d,?_⟩,d,aH.grown j,r⟩;have y:aL b m (m.setCell ⟨b,0,none⟩ (.slice a n c)):=(aL.refl _ _).setCell _;rw [lr,List.length_append,←q];refine kk f y (fun e=>?_);obtain ⟨A,z,v⟩:=gB f e;rw [d] at v;simp at v
theorem ED (b:Bool) (c:Nat) (n:Value) (d:List UInt8) (i:Bool) (t:List UInt8) (a:Bool) (g:Int) (w:World) (h:gl w c n ⟨d,i,b⟩) (hB:d.length≤1073741824) (ht:t.length≤1048576):
  Calls Tryz.prog 140 #[.pointer (some ⟨c,0,none⟩),.agg #[.string (bs t),.bool a],.int .i64 g] w fun e w'=>e= .returned (.tuple #[])∧∃a5,gl w' c a5 (dW.add ⟨d,i,b⟩ t a g)∧aH (fun k=>k=c∨n.ownBlock=some k) w w'∧∀k,a5.ownBlock=some k→n.ownBlock=some k∨w.heap.size≤k:=by
 obtain ⟨o,a1⟩:∃o:World,w.alloc (.cells #[.string (bs t),.bool a] 138)=o:=⟨_,rfl⟩;have T:Below w.heap.size w o:=by rw [←a1];exact (Below.refl _ _).alloc (Nat.le_refl _) _
 have I:o.heap[w.heap.size]? =some (.cells #[.string (bs t),.bool a] 138 (0,0)):=by rw [←a1];exact heap_alloc_new w _
 have bl:=ah h.blk;have p:c≠w.heap.size:=by omega
 have B:gl o c n ⟨d,i,b⟩:=h.chg (A:=fun _=>False) (aH.below T) (fun e=>e) (fun _ _ e=>e);have u:aL c o (o.setCell ⟨c,2,none⟩ (.bool (b || a))):=(aL.refl _ _).setCell _;have j:gl (o.setCell ⟨c,2,none⟩ (.bool (b || a))) c n ⟨d,i,b || a⟩:=⟨heap_setCell_same o c 2 _ _ (.bool (b || a)) B.blk,kk B.row u B.far⟩;have l0:o.cell? ⟨w.heap.size,0,none⟩=some (.string (bs t)):=by rw [Lib.cell_of_heap I];rfl
 have l1:o.cell? ⟨w.heap.size,1,none⟩=some (.bool a):=by rw [Lib.cell_of_heap I];rfl
 have c2:o.cell? ⟨c,2,none⟩=some (.bool b):=by rw [Lib.cell_of_heap B.blk];rfl
 have f2:=Lib.frozen_of_heap B.blk 2;obtain ⟨m,y⟩:∃m:World,o.setCell ⟨c,2,none⟩ (.bool (b || a))=m:=⟨_,rfl⟩;rw [y] at j u;have m0:m.cell? ⟨w.heap.size,0,none⟩=some (.string (bs t)):=(u.cell (Ne.symm p)).trans l0;have c0:m.cell? ⟨c,0,none⟩=some n:=by rw [Lib.cell_of_heap j.blk];rfl
 have c1:m.cell? ⟨c,1,none⟩=some (.bool i):=by rw [Lib.cell_of_heap j.blk];rfl
 have f0:=Lib.frozen_of_heap j.blk 0;have f1:=Lib.frozen_of_heap j.blk 1;obtain ⟨av,cv,ev⟩:=Mk j.row;simp only at ev;have J:m.heap[w.heap.size]? =some (.cells #[.string (bs t),.bool a] 138 (0,0)):=(u.2 _ (Ne.symm p)).trans I;have R:aH (fun k=>k=c∨n.ownBlock=some k) w m:=(aH.below T).trans (aH.same u) (fun _ _ e=> .inl e);have b5:w.heap.size < m.heap.size:=by rw [u.1];exact ah I
 have a6:=Lib.hid j;have V:=Lib.hid R;have b3:=Lib.hid J;have Z:=Lib.hid (vY t)
 have a0:Hid (∀W:World,Calls Tryz.prog 197 #[.string (bs t),.string ⟨#[46]⟩] W fun e w'=>e= .returned (.string (bs (jP t)))∧W=w'):=Lib.hid (fun W=>(Tryz.strings_TrimPrefix (bs t) ⟨#[46]⟩ W).mono (by
  rintro e w' ⟨rfl,rfl⟩
  exact ⟨by rw [←vZ];rfl,rfl⟩))
 by_cases O:g < (d.length:Int)
 ·have X:Hid (dW.add ⟨d,i,b⟩ t a g=⟨d,i,b || a⟩):=Lib.hid (by simp [dW.add,O]);clear h B j T I u J R;subst ev
  cases b
  all_goals
   simp only [Bool.true_or,Bool.false_or] at y;go_enter Tryz.func140,Tryz.ntmps140;go_wp2_with fail
   refine bodyPost_ret (v:= .tuple #[]) (by simp [results,Tryz.results140,go_sem]) rfl ?_;exact ⟨rfl,_,by rw [X.out];exact a6.out,V.out,fun k e=> .inl e⟩
 ·cases i with
  | false=>
   have X:Hid (dW.add ⟨d,false,b⟩ t a g=⟨d++jP t,true,b || a⟩):=Lib.hid (by simp [dW.add,O]);have s:gl (m.setCell ⟨c,1,none⟩ (.bool true)) c n ⟨d,true,b || a⟩:=⟨heap_setCell_same m c 1 _ _ (.bool true) j.blk,kk j.row ((aL.refl _ _).setCell _) j.far⟩;have x:aL c m (m.setCell ⟨c,1,none⟩ (.bool true)):=(aL.refl _ _).setCell _;obtain ⟨f,M⟩:∃f:World,m.setCell ⟨c,1,none⟩ (.bool true)=f:=⟨_,rfl⟩;rw [M] at s x;have X2:f.heap[w.heap.size]? =some (.cells #[.string (bs t),.bool a] 138 (0,0)):=(x.2 _ (Ne.symm p)).trans J;have n0:f.drew.cell? ⟨w.heap.size,0,none⟩=some (.string (bs t)):=by show f.cell? _=_;rw [Lib.cell_of_heap X2];rfl
   have d0:f.drew.cell? ⟨c,0,none⟩=some n:=by show f.cell? _=_;rw [Lib.cell_of_heap s.blk];rfl
   obtain ⟨a3,n3,c3,C,q,U,l,K3,r⟩:=gl.app (w:=f.drew) (s.chg (A:=fun _=>False) (aH.below ((Below.refl _ _).drew)) (fun e=>e) (fun _ _ e=>e)) (jP t) (by simp only;have:=Z.out;omega);have d3:C.cell? ⟨c,0,none⟩=some n:=by rw [Lib.cell_of_heap l];rfl
   have f3:=Lib.frozen_of_heap l 0;have Y:=Lib.hid x;have F:=Lib.hid U;have a7:=Lib.hid K3;have G:=Lib.hid q;have H:=Lib.hid r;clear h B j T I u J R s x X2 U K3 q r l;subst ev
   cases b
   all_goals
    simp only [Bool.true_or,Bool.false_or] at y;go_enter Tryz.func140,Tryz.ntmps140;go_wp2_with fail
    go_region_law (first
     | (refine gD rfl _ _ 114 9 rfl _ _ _ C rfl rfl G.out ?_)
     | (go_simp;go_at_call 197;refine (a0.out f.drew).mono ?_;rintro e w9 ⟨rfl,rfl⟩;dsimp only))
    all_goals
     go_wp2_with fail
     refine bodyPost_end (results_none rfl _ _ _) rfl ?_;refine ⟨rfl,_,by rw [X.out];exact F.out,?_,?_⟩
     ·exact ((V.out.trans (aH.same Y.out) (fun _ _ e=> .inl e)).trans ((aH.below ((Below.refl _ _).drew)).trans a7.out (fun k _ e=>e):aH (fun k=>(Value.slice av d.length cv).ownBlock=some k) f C) (fun _ _ e=> .inr e)).trans (aH.same ((aL.refl _ _).setCell _)) (fun _ _ e=> .inl e)
     ·exact fun k e=>(H.out k e).imp id (fun e=>by have:=Y.out.1;have:f.heap.size≤k:=e;omega)
  | true=>
   have X:Hid (dW.add ⟨d,true,b⟩ t a g=⟨d++[13,10]++jP t,true,b || a⟩):=Lib.hid (by simp [dW.add,O]);obtain ⟨K,Q,L,S,a2,E,N,K4,P⟩:=j.app [13,10] (by simp only [List.length_cons,List.length_nil];omega);have d4:S.cell? ⟨c,0,none⟩=some n:=by rw [Lib.cell_of_heap N];rfl
   have f4:=Lib.frozen_of_heap N 0;have S5:aL c S (S.setCell ⟨c,0,none⟩ (.slice K Q L)):=(aL.refl _ _).setCell _;obtain ⟨D,b0⟩:∃D:World,S.setCell ⟨c,0,none⟩ (.slice K Q L)=D:=⟨_,rfl⟩;rw [b0] at E S5;have d5:D.cell? ⟨c,1,none⟩=some (.bool true):=by rw [Lib.cell_of_heap E.blk];rfl
   have f5:=Lib.frozen_of_heap E.blk 1;have s:gl (D.setCell ⟨c,1,none⟩ (.bool true)) c (.slice K Q L) ⟨d++[13,10],true,b || a⟩:=⟨heap_setCell_same D c 1 _ _ (.bool true) E.blk,kk E.row ((aL.refl _ _).setCell _) E.far⟩;have x:aL c D (D.setCell ⟨c,1,none⟩ (.bool true)):=(aL.refl _ _).setCell _;obtain ⟨f,M⟩:∃f:World,D.setCell ⟨c,1,none⟩ (.bool true)=f:=⟨_,rfl⟩;rw [M] at s x;have K2:aH (fun k=>k=c∨n.ownBlock=some k) w f:=((R.trans K4 (fun _ _ e=> .inr e)).trans (aH.same S5) (fun _ _ e=> .inl e)).trans (aH.same x) (fun _ _ e=> .inl e)
   have X4:S.heap[w.heap.size]? =some (.cells #[.string (bs t),.bool a] 138 (0,0)):=K4.some_ J (fun e=>by
    obtain ⟨b4,z,h1⟩:=gB j.row e;rw [J] at h1
    simp at h1)
   have X2:f.heap[w.heap.size]? =some (.cells #[.string (bs t),.bool a] 138 (0,0)):=(x.2 _ (Ne.symm p)).trans ((S5.2 _ (Ne.symm p)).trans X4);have n0:f.drew.cell? ⟨w.heap.size,0,none⟩=some (.string (bs t)):=by show f.cell? _=_;rw [Lib.cell_of_heap X2];rfl
   have d0:f.drew.cell? ⟨c,0,none⟩=some (.slice K Q L):=by show f.cell? _=_;rw [Lib.cell_of_heap s.blk];rfl
   obtain ⟨a3,n3,c3,C,q,U,l,K3,r⟩:=gl.app (w:=f.drew) (s.chg (A:=fun _=>False) (aH.below ((Below.refl _ _).drew)) (fun e=>e) (fun _ _ e=>e)) (jP t) (by simp only [List.length_append,List.length_cons,List.length_nil];have:=Z.out;omega);have d3:C.cell? ⟨c,0,none⟩=some (.slice K Q L):=by rw [Lib.cell_of_heap l];rfl
   have f3:=Lib.frozen_of_heap l 0;have b2:w.heap.size≤f.heap.size:=K2.size;have b1:w.heap.size≤m.heap.size:=R.size;have KF:aH (fun k=>k=c∨n.ownBlock=some k) w C:=K2.trans ((aH.below ((Below.refl _ _).drew)).trans K3 (fun k _ e=>e):aH (fun k=>(Value.slice K Q L).ownBlock=some k) f C) (fun k hk e=>(P k e).elim (fun e=> .inr e) (fun e=>absurd hk (by omega)));have H:Hid (∀k,(Value.slice a3 n3 c3).ownBlock=some k→n.ownBlock=some k∨w.heap.size≤k):=Lib.hid (fun k e=>(r k e).elim (fun e=>(P k e).imp id (fun e=>by omega)) (fun e=> .inr (by have:f.heap.size≤k:=e;omega)));have F:=Lib.hid U;have a8:=Lib.hid KF;have G:=Lib.hid q;have a9:=Lib.hid a2;clear h B j T I u J R s x X2 U K3 q r l E N K4 P a2 S5 K2 X4 KF;subst ev
   cases b
   all_goals
    simp only [Bool.true_or,Bool.false_or] at y;go_enter Tryz.func140,Tryz.ntmps140
    go_wp2_with (first
     | (at_builtin;refine iX rfl _ _ 114 9 rfl _ (.slice K Q L) (bs [13,10]) S rfl rfl a9.out ?_)
     | fail)
    go_region_law (first
     | (refine gD rfl _ _ 114 9 rfl _ _ _ C rfl rfl G.out ?_)
     | (go_simp;go_at_call 197;refine (a0.out f.drew).mono ?_;rintro e w9 ⟨rfl,rfl⟩;dsimp only))
    all_goals
     go_wp2_with fail
     refine bodyPost_end (results_none rfl _ _ _) rfl ?_;exact ⟨rfl,_,by rw [X.out];exact F.out,a8.out.trans (aH.same ((aL.refl _ _).setCell _)) (fun _ _ e=> .inl e),H.out⟩
theorem Ah (c:Nat) (f:Value) (B:dW) (t:List UInt8) (a:Bool) (b:Int) (w:World) (h:gl w c f B) (m:B.text.length≤1073741824) (n:t.length≤1048576):
  Calls Tryz.prog 140 #[.pointer (some ⟨c,0,none⟩),.agg #[.string (bs t),.bool a],.int .i64 b] w fun e l=>e= .returned (.tuple #[])∧∃d,gl l c d (B.add t a b)∧aH (fun k=>k=c∨f.ownBlock=some k) w l∧∀k,d.ownBlock=some k→f.ownBlock=some k∨w.heap.size≤k:=by
 obtain ⟨j,i,g⟩:=B;exact ED g c f j i t a b w h m n
theorem jJ (P:Program) (g o:Nat) (t:TypeId) (b:Nat×Nat):∀(d:List Value) (i:Nat) (a:Array Value) (w:World),w.heap[g]? =some (.cells a t b)→(b.2≤o+i∨o+i+d.length≤b.1)→o+i+d.length≤a.size→(∀v∈d,v.oneCell'=true)→
  (storeCells ⟨g,o,none⟩ d i).run P w= .ok () (w.setRow g (a.toList.take (o+i)++d++a.toList.drop (o+i+d.length)).toArray)
 | [],i,a,w,hg,_,_,_=>by
  simp only [storeCells,List.append_nil,List.length_nil,Nat.add_zero,List.take_append_drop,Array.toArray_toList];rw [setRow_self w g a t b hg];rfl
 | v::rest,i,a,w,hg,hfz,hl,h1=>by
  have k:o+i < a.size:=by simp at hl;omega
  have f:(⟨g,o,none⟩:Addr).add i=⟨g,o+i,none⟩:=by unfold Addr.add;split <;> simp_all
  have c:w.cell? ⟨g,o+i,none⟩=some a[o+i]:=by simp [World.cell?,hg,k]
  have h:w.frozen? ⟨g,o+i,none⟩=false:=by
   obtain ⟨p,l⟩:=b;simp only [World.frozen?,hg,Bool.and_eq_false_iff,decide_eq_false_iff_not];simp only [List.length_cons] at hfz;omega
  have j:(store ((⟨g,o,none⟩:Addr).add i) v).run P w= .ok () (w.setRow g (a.setIfInBounds (o+i) v)):=by
   rw [f,run_store P w _ v _ (h1 v (by simp)),c];simp [h,setCell_eq_setRow w g (o+i) a t b v hg]
  have n:=jJ P g o t b rest (i+1) (a.setIfInBounds (o+i) v) (w.setRow g (a.setIfInBounds (o+i) v)) (setRow_heap w g a _ t _ hg) (by simp only [List.length_cons] at hfz;omega) (by simp at hl ⊢;omega) (fun x m=>h1 x (by simp [m]));simp only [storeCells,Sem.run_bind,j,Result.andThen_ok,n,setRow_setRow]
  congr 3
  have e:=list_seg_step a.toList (o+i) v rest (by simp at hl ⊢;omega);simpa [Array.toList_setIfInBounds,Nat.add_assoc] using e
def dT (w:World) (v:Value) (l:List UInt8):Prop:=
 (v= .slice none 0 0∧l=[])∨∃g cap cur fz,v= .slice (some ⟨g,0,none⟩) l.length cap∧w.heap[g]? =some (.cells cur 5 fz)∧(fz.2≤l.length∨cap≤fz.1)∧l.length≤cap∧cap≤maxLen∧cur.size=cap∧cur.toList.take l.length=Lib.byteCells l
theorem gR (l:List UInt8):(Lib.byteCells l).length=l.length:=by simp [Lib.byteCells]
theorem dT.nil (w:World):dT w (.slice none 0 0) []:= .inl ⟨rfl,rfl⟩
theorem dT.ofF {w:World} {base:Nat} {v:Value} {l:List UInt8} (h:w.ownsRowF base 5 1 v l.length (Lib.byteCells l)):dT w v l:=by
 rcases h.2 with ⟨c,f⟩ | ⟨g,a,b,e,c,_,i,m,j,k,n,d⟩
 ·exact .inl ⟨c,List.length_eq_zero_iff.1 f⟩
 ·exact .inr ⟨g,a,b,e,c,i,.inl (by omega),j,k,by omega,by rw [Nat.mul_one] at d;exact d⟩
theorem dT.len {w:World} {v:Value} {l:List UInt8} (h:dT w v l):∃a c,v= .slice a l.length c:=by
 rcases h with ⟨b,f⟩ | ⟨g,d,e,i,b,_⟩
 ·exact ⟨none,0,by rw [b,f];rfl⟩
 ·exact ⟨_,_,b⟩
theorem dT.tag {w:World} {v:Value} {l:List UInt8} (h:dT w v l) {g:Nat} (a:v.ownBlock=some g):∃b z,w.heap[g]? =some (.cells b 5 z):=by
 rcases h with ⟨c,_⟩ | ⟨i,d,b,f,c,e,_⟩
 ·rw [c] at a;cases a
 ·rw [c] at a;injection a with a;subst a;exact ⟨_,_,e⟩
theorem dT.lt {w:World} {v:Value} {l:List UInt8} (h:dT w v l) {g:Nat} (c:v.ownBlock=some g):g < w.heap.size:=by
 obtain ⟨a,z,b⟩:=h.tag c;exact ah b
theorem dT.chg {A:Nat→Prop} {w d:World} {v:Value} {l:List UInt8} (h:dT w v l) (i:aH A w d) (j:∀g,v.ownBlock=some g→¬A g):dT d v l:=by
 rcases h with h | ⟨g,a,b,e,c,f,r⟩
 ·exact .inl h
 ·exact .inr ⟨g,a,b,e,c,i.some_ f (j g (by rw [c];rfl)),r⟩
theorem dT.below {w a:World} {v:Value} {l:List UInt8} (h:dT w v l) (b:Below w.heap.size w a):dT a v l:=h.chg (aH.below b:aH (fun _=>False) w a) (fun _ _ e=>e)
theorem dT.cell {w:World} {v:Value} {l:List UInt8} (h:dT w v l) {g:Nat} (b:v.ownBlock=some g) (j:Nat) (a:j < l.length):w.cell? ⟨g,j,none⟩=some (.int .u8 ((l.getD j 0).toNat:Int)):=by
 rcases h with ⟨_,c⟩ | ⟨m,d,e,k,c,f,_,_,_,_,i⟩
 ·rw [c] at a;simp at a
 ·rw [c] at b;injection b with b;subst b;rw [Lib.cell_of_heap f,←Array.getElem?_toList,←List.getElem?_take_of_lt a,i,Lib.byteCells,List.getElem?_map,List.getElem?_eq_getElem a,List.getD_eq_getElem?_getD,List.getElem?_eq_getElem a];rfl
theorem dT.cells {w:World} {l:List UInt8} {g n c:Nat} (h:dT w (.slice (some ⟨g,0,none⟩) n c) l):∀j u,(Lib.byteCells l)[j]? =some u→w.cell? ((⟨g,0,none⟩:Addr).add j)=some u:=by
 intro j u d;have a:(⟨g,0,none⟩:Addr).add j=⟨g,j,none⟩:=by unfold Addr.add;split <;> simp_all
 have b:j < l.length:=by have:=(List.getElem?_eq_some_iff.1 d).1;rwa [gR] at this
 rw [a,h.cell rfl j b,←d,Lib.byteCells,List.getElem?_map,List.getElem?_eq_getElem b,List.getD_eq_getElem?_getD,List.getElem?_eq_getElem b];rfl
theorem dT.string {w:World} {v:Value} {l:List UInt8} (h:dT w v l):(convert 114 9 v).run Tryz.prog w= .ok (.string (bs l)) w:=by
 rcases h with ⟨rfl,rfl⟩ | ⟨g,cap,a,b,rfl,c,r⟩
 ·rw [run_convert_bytes_string w 114 9 5 none 0 0 Tryz.underlying114 Tryz.underlying5 Tryz.underlying9];simp [Conv.bytesToString,Sem.run_pure];rfl
 ·exact oP w g cap l.length l rfl (fun j d=>dT.cell (.inr ⟨g,cap,a,b,rfl,c,r⟩) rfl j d)
theorem dT.conv (w:World) (l:List UInt8) (d:l.length≤maxLen):dT (Lib.bytesWorld w 5 (bs l)) (.slice (some ⟨w.heap.size,0,none⟩) (bs l).size (grownCap w (bs l).size 0 5)) l:=by
 have a:=aG l;have b:=grownCap_ge w l.length 0 5;have c:=grownCap_le_maxLen w l.length 0 5 d;refine .inr ⟨w.heap.size,grownCap w l.length 0 5,_,_,by rw [a],Lib.bytesWorld_at_new w 5 (bs l),.inr ?_,b,c,?_,?_⟩
 ·simp only [Lib.bytesCells,a,Array.size_append,Array.size_map,Array.size_replicate];have:(bs l).data.size=l.length:=a;omega
 ·simp only [Lib.bytesCells,a,Array.size_append,Array.size_map,Array.size_replicate];have:(bs l).data.size=l.length:=a;omega
 ·simp only [Lib.bytesCells,Array.toList_append,Array.toList_map];rw [List.take_left' (by simp [bs])];simp [Lib.byteCells,bs]
theorem qA {α:Type} (a b c:List α) {n:Nat} (h:n=a.length+b.length):(a++b++c).take n=a++b:=by
 rw [h,←List.length_append];exact List.take_left
theorem dT.text {w:World} {v:Value} {l:List UInt8} (h:dT w v l) (s:List UInt8) (L:l.length+s.length≤140737488355328):
  ∃a n c B,(Builtin.append_ #[114,9] 114 #[v,.string (bs s)]).run Tryz.prog w= .ok (.slice a n c) B∧dT B (.slice a n c) (l++s)∧aH (fun k=>v.ownBlock=some k) w B∧∀k,(Value.slice a n c).ownBlock=some k→v.ownBlock=some k∨w.heap.size≤k:=by
 obtain ⟨i,H,z,p,A⟩:=info_parts lx;have x:=aG s
 rcases h with ⟨rfl,rfl⟩ | ⟨g,b,f,C,rfl,q,F,Q,J,R,K⟩
 ·obtain ⟨U,B,O,E,q,F⟩:=jW (P:=Tryz.prog) w 0 114 9 114 5 i Tryz.underlying114 Tryz.underlying9 H z p A (.slice none 0 0) 0 [] (World.ownsRowF_nil w 0 5 1) (bs s) (by unfold maxLen;simp at L;omega) (by simp at L;omega) (Nat.zero_le _)
  obtain ⟨a,n,c,rfl⟩:∃a m c,U= .slice a m c:=by
   rcases E.2 with ⟨e,_⟩ | ⟨g,b,f,C,e,_⟩
   ·exact ⟨_,_,_,e⟩
   ·exact ⟨_,_,_,e⟩
  refine ⟨a,n,c,B,O,dT.ofF (base:=0) ?_,aH.grown q,F⟩;have N:[]++Lib.strCells (bs s)=Lib.byteCells s:=by simp [Lib.byteCells,Lib.strCells,bs]
  rw [N,Nat.zero_add,x] at E;exact E
 ·have S:dT w (.slice (some ⟨g,0,none⟩) l.length b) l:= .inr ⟨g,b,f,C,rfl,q,F,Q,J,R,K⟩;have d:Lib.strCells (bs s)=Lib.byteCells s:=by simp [Lib.byteCells,Lib.strCells,bs]
  have t:=gR s;have u:=gR l;have r:Lib.byteCells (l++s)=Lib.byteCells l++Lib.byteCells s:=by simp [Lib.byteCells]
  by_cases j:l.length+s.length≤b
  ·have M:=Lib.run_firstCells_string (P:=Tryz.prog) w 1 (bs s);have y:=jJ Tryz.prog g l.length 5 C (Lib.strCells (bs s)) 0 f w q (by rw [d];omega) (by rw [d];omega) (Lib.strCells_oneCell (bs s));simp only [Nat.add_zero,Lib.strCells_length,x] at y;rw [x] at M
   have D:(Builtin.append_ #[114,9] 114 #[.slice (some ⟨g,0,none⟩) l.length b,.string (bs s)]).run Tryz.prog w= .ok (.slice (some ⟨g,0,none⟩) (l.length+s.length) b) (w.setRow g (f.toList.take l.length++Lib.strCells (bs s)++f.toList.drop (l.length+s.length)).toArray):=by
    simp [Builtin.append_,run_underlying Tryz.underlying114,run_underlying Tryz.underlying9,sizeOf,typeInfo,H,p,Builtin.lenOf,x,j,M,Addr.add_lit,y]
   refine ⟨_,_,_,_,D,.inr ⟨g,b,_,C,by rw [List.length_append],setRow_heap w g f _ 5 _ q,by rw [List.length_append];omega,by rw [List.length_append];exact j,J,?_,?_⟩,⟨by simp [World.setRow],fun k _ o=>setRow_other w g k _ (fun e=>o (by rw [e];rfl)),⟨rfl,rfl,rfl⟩⟩,fun k o=> .inl o⟩
   ·simp only [List.size_toArray,List.length_append,List.length_take,List.length_drop,Array.length_toList,d,t];omega
   ·rw [K,d,r,List.length_append];exact qA _ _ _ (by omega)
  ·have D:=Lib.run_append_grow_string (P:=Tryz.prog) w 114 9 114 5 i (.int .u8 0) Tryz.underlying114 Tryz.underlying9 H z ⟨g,0,none⟩ l.length b (Lib.byteCells l) (by rw [p];omega) S.cells (bs s) (by omega) (by omega) (by rw [A];exact growslice_fits (by omega) (by omega));rw [x] at D;have G:=grownCap_ge w (l.length+s.length) b 5;have I:=grownCap_le_maxLen w (l.length+s.length) b 5 (by unfold maxLen;omega);refine ⟨_,_,_,_,D,.inr ⟨w.heap.size,_,_,(0,0),by rw [List.length_append],heap_alloc_new w.drew _,.inl (Nat.zero_le _),by rw [List.length_append];exact G,I,?_,?_⟩,aH.below ((Below.refl w.heap.size w).drew.alloc (Nat.le_refl _) _),fun k o=> .inr (by injection o with o;exact Nat.le_of_eq o)⟩
   ·have T:(Value.int IntKind.u8 0).cells.size=1:=rfl;simp only [Array.size_append,List.size_toArray,size_zeroCells,T,d,t,u];omega
   ·simp only [Array.toList_append,d,r,List.length_append];exact qA _ _ _ (by omega)
theorem dT.one {w W:World} {v:Value} {l:List UInt8} (h:dT w v l) (x:UInt8) (r:Below w.heap.size w W) (T:W.heap[w.heap.size]? =some (.cells #[.int .u8 (x.toNat:Int)] 5 (0,0))) (X:l.length+1≤140737488355328):
  ∃a n c D,(Builtin.append_ #[114,114] 114 #[v,.slice (some ⟨w.heap.size,0,none⟩) 1 1]).run Tryz.prog W= .ok (.slice a n c) D∧dT D (.slice a n c) (l++[x])∧aH (fun k=>v.ownBlock=some k) w D∧∀k,(Value.slice a n c).ownBlock=some k→v.ownBlock=some k∨w.heap.size≤k:=by
 obtain ⟨i,H,B,p,C⟩:=info_parts lx;have d:∀j u,[Value.int .u8 (x.toNat:Int)][j]? =some u→W.cell? ((⟨w.heap.size,0,none⟩:Addr).add j)=some u:=World.news_of_block (cs:=#[.int .u8 (x.toNat:Int)]) (t:=5) (fr:=(0,0)) T;have F:=h.below r;have s:Lib.byteCells (l++[x])=Lib.byteCells l++[.int .u8 (x.toNat:Int)]:=by simp [Lib.byteCells]
 have y:=gR l
 rcases F with ⟨rfl,rfl⟩ | ⟨g,b,m,E,rfl,q,O,Q,K,R,L⟩
 ·obtain ⟨g,b,D,M,N,q⟩:=gC (P:=Tryz.prog) W 114 114 0 5 i (.int .u8 0) 1 1 Tryz.underlying114 H B p C rfl (by decide) (.slice none 0 0) 0 [] ⟨rfl,.inl ⟨rfl,rfl⟩⟩ ⟨w.heap.size,0,none⟩ 1 1 [.int .u8 (x.toNat:Int)] rfl d (by intro u A;simp at A;rw [A];rfl) (by decide) (by unfold maxLen;decide) (by decide) (Nat.zero_le _)
  rcases q with ⟨e,_⟩ | ⟨e,q⟩
  ·cases e
  ·refine ⟨_,_,_,D,M,dT.ofF (base:=0) (World.ownsRowF_of N),(aH.below r:aH _ w W).trans (aH.grown q) (fun k _ e=>by cases e),fun k f=> .inr ?_⟩;injection f with f;have f:g=k:=f;have:=r.size;omega
 ·have S:dT W (.slice (some ⟨g,0,none⟩) l.length b) l:= .inr ⟨g,b,m,E,rfl,q,O,Q,K,R,L⟩
  by_cases o:l.length+1≤b
  ·have U:=run_firstCells_some (P:=Tryz.prog) W 1 1 ⟨w.heap.size,0,none⟩ 1 1 [.int .u8 (x.toNat:Int)] rfl d;have z:=jJ Tryz.prog g l.length 5 E [.int .u8 (x.toNat:Int)] 0 m W q (by simp only [List.length_cons,List.length_nil];omega) (by simp only [List.length_cons,List.length_nil];omega) (by intro u A;simp at A;rw [A];rfl);simp only [Nat.add_zero,List.length_cons,List.length_nil,Nat.zero_add] at z
   have J:(Builtin.append_ #[114,114] 114 #[.slice (some ⟨g,0,none⟩) l.length b,.slice (some ⟨w.heap.size,0,none⟩) 1 1]).run Tryz.prog W= .ok (.slice (some ⟨g,0,none⟩) (l.length+1) b) (W.setRow g (m.toList.take l.length++[Value.int .u8 (x.toNat:Int)]++m.toList.drop (l.length+1)).toArray):=by
    simp [Builtin.append_,run_underlying Tryz.underlying114,sizeOf,typeInfo,H,p,Builtin.lenOf,o,U,Addr.add_lit,z]
   refine ⟨_,_,_,_,J,.inr ⟨g,b,_,E,by rw [List.length_append];rfl,setRow_heap W g m _ 5 _ q,by rw [List.length_append];simp only [List.length_cons,List.length_nil];omega,by rw [List.length_append];exact o,K,?_,?_⟩,(aH.below r:aH _ w W).trans (A1:=fun k=>k=g) ⟨by simp [World.setRow],fun k _ f=>setRow_other W g k _ f,⟨rfl,rfl,rfl⟩⟩ (fun k _ e=>by rw [e];rfl),fun k f=> .inl f⟩
   ·simp only [List.size_toArray,List.length_append,List.length_take,List.length_drop,Array.length_toList,List.length_cons,List.length_nil];omega
   ·rw [L,s,List.length_append];exact qA _ _ _ (by simp only [List.length_cons,List.length_nil];omega)
  ·have J:=run_append_grow (P:=Tryz.prog) W 114 114 5 i (.int .u8 0) Tryz.underlying114 H B ⟨g,0,none⟩ l.length b (Lib.byteCells l) (by rw [p];omega) S.cells ⟨w.heap.size,0,none⟩ 1 1 [.int .u8 (x.toNat:Int)] (by rw [p];rfl) d (by omega) (by omega) (by rw [C];exact growslice_fits (by omega) (by omega));have G:=grownCap_ge W (l.length+1) b 5;have I:=grownCap_le_maxLen W (l.length+1) b 5 (by unfold maxLen;omega);refine ⟨_,_,_,_,J,.inr ⟨W.heap.size,_,_,(0,0),by rw [List.length_append];rfl,heap_alloc_new W.drew _,.inl (Nat.zero_le _),by rw [List.length_append];exact G,I,?_,?_⟩,(aH.below r:aH _ w W).trans (aH.below ((Below.refl W.heap.size W).drew.alloc (Nat.le_refl _) _):aH (fun _=>False) _ _) (fun _ _ e=>e.elim),fun k f=> .inr (by injection f with f;have f:W.heap.size=k:=f;have:=r.size;omega)⟩
   ·have V:(Value.int IntKind.u8 0).cells.size=1:=rfl;simp only [Array.size_append,List.size_toArray,size_zeroCells,V,y,List.length_cons,List.length_nil];omega
   ·simp only [Array.toList_append,s,List.length_append];exact qA _ _ _ (by simp only [List.length_cons,List.length_nil];omega)
theorem lH:∀(k n:Nat),az (k+1) n=UInt8.ofNat (n / 256 ^ k)::az k n
 | 0,n=>by simp [az]
 | k+1,n=>by
  rw [az,lH k (n / 256),Nat.div_div_eq_div_mul,←Nat.pow_succ',az];rfl
theorem tM:∀(a n k:Nat) (h:k < a),(az a n)[k]'(by rw [bf];exact h)=UInt8.ofNat (n / 256 ^ (a - 1 - k))
 | 0,n,k,h=>by omega
 | a+1,n,0,h=>by simp [lH]
 | a+1,n,k+1,h=>by
  simp only [lH,List.getElem_cons_succ];rw [tM a n k (by omega)]
  congr 3
  omega
theorem dF (v:Value) (l:List UInt8) (n a:Nat) (w:World) (h:dT w v l) (X:l.length≤1073741824) (_:n≤4294967295) (Y:1≤a∧a≤4):
  Calls Tryz.prog 174 #[v,.int .i64 n,.int .i64 a] w fun e q=>∃D,e= .returned D∧dT q D (l++az a n)∧aH (fun k=>v.ownBlock=some k) w q∧∀k,D.ownBlock=some k→v.ownBlock=some k∨w.heap.size≤k:=by
 have M:=Lib.hid h;clear h;go_enter Tryz.func174,Tryz.ntmps174;go_wp2_with fail
 go_loopw [0,7] (fun b C q=>∃k:Nat,k≤a∧C= .int .i64 (8 * ((a:Int) - k) - 8)∧Hid (dT q b (l++(az a n).take k))∧Hid (aH (fun j=>v.ownBlock=some j) w q)∧Hid (∀j,b.ownBlock=some j→v.ownBlock=some j∨w.heap.size≤j)) (fun _ C _=>((intOf C)+8).toNat)
 case atStart=>
  refine ⟨0,Nat.zero_le _,congrArg (Value.int .i64) (by omega),Lib.hid ?_,Lib.hid (aH.refl _ _),Lib.hid (fun _ e=> .inl e)⟩;rw [List.take_zero,List.append_nil];exact M.out
 case round=>
  obtain ⟨k,V,rfl,m,r,t⟩:=hrel
  by_cases o:k < a
  ·obtain ⟨f,p⟩:∃f:Nat,8 * (a - k) - 8=f:=⟨_,rfl⟩;have O:(8 * ((a:Int) - k) - 8)=(f:Int):=by omega
   rw [O];have K:f≤24:=by omega
   have B:((UInt8.ofNat (n / 2 ^ f)).toNat:Int)=(n:Int) / 2 ^ f % 256:=by
    rw [UInt8.toNat_ofNat'];rfl
   have d:(az a n).take (k+1)=(az a n).take k++[UInt8.ofNat (n / 2 ^ f)]:=by
    rw [List.take_succ_eq_append_getElem (by rw [bf];exact o)]
    congr 2
    rw [tM a n k o,←p]
    congr 2
    rw [show (256:Nat)=2 ^ 8 from rfl,←Nat.pow_mul]
    congr 1
    omega
   obtain ⟨g,c⟩:∃g,l++(az a n).take k=g:=⟨_,rfl⟩;have Q:g.length≤1073741828:=by rw [←c,List.length_append,List.length_take];omega
   have N:Hid (l++(az a n).take (k+1)=g++[UInt8.ofNat (n / 2 ^ f)]):=Lib.hid (by rw [d,←List.append_assoc,c]);rw [c] at m;obtain ⟨T,U,P⟩:=m.out.len;subst P;have z:=heap_alloc_new wr (.cells #[.int .u8 ((n:Int) / 2 ^ f % 256)] 5);rw [←B] at z;obtain ⟨H,L,I,S,i,G,E,F⟩:=m.out.one (UInt8.ofNat (n / 2 ^ f)) (W:=wr.alloc (.cells #[.int .u8 ((UInt8.ofNat (n / 2 ^ f)).toNat:Int)] 5)) ((Below.refl _ _).alloc (Nat.le_refl _) _) z (by omega);rw [B] at i;have x:=Lib.hid i;have y:=Lib.hid G;have s:=Lib.hid (r.out.trans E (fun j R e=>(t.out j e).elim id (fun e=>absurd R (by omega))));have u:Hid (∀j,(Value.slice H L I).ownBlock=some j→v.ownBlock=some j∨w.heap.size≤j):=Lib.hid (fun j e=>(F j e).elim (t.out j) (fun e=> .inr (Nat.le_trans r.out.size e)));clear B d c p z i G E F
   go_wp2_with (first
    | (at_builtin;refine bB rfl _ _ 114 rfl _ _ (.slice H L I) S rfl rfl x.out ?_)
    | fail)
   exact ⟨⟨k+1,by omega,congrArg (Value.int .i64) (by omega),by rw [N.out];exact y,s,u⟩,by simp [intOf];omega⟩
  ·have A:k=a:=by omega
   subst A;have J:¬(0:Int)≤8 * ((k:Int) - k) - 8:=by omega
   rw [List.take_of_length_le (by rw [bf];exact Nat.le_refl _)] at m;go_wp2_with fail
   go_ret;exact ⟨_,rfl,m.out,r.out,t.out⟩
end Go.Proofs.YtofpegbpgkkgkaaGreatDoor
