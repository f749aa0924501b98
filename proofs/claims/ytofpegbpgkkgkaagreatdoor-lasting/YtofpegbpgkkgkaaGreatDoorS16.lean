import Derived.ProofKit
import Derived.OpenShut
import Derived.LaidMore
import Derived.Lay
import Derived.HandedShaped
import Derived.Shelf.Vars
import Derived.Test.YtofpegbpgkkgkaaGreatDoorS07
import Derived.Test.YtofpegbpgkkgkaaGreatDoorS08
namespace Go.Proofs.YtofpegbpgkkgkaaGreatDoor
set_option maxHeartbeats 8000000
set_option maxRecDepth 1000000
open Go.ChangeShapes Go.WideShapes Go.ChangeAt Go.RowKit
theorem own:ownKnob Tryz.prog.godebug=none:=by kernel_rfl
theorem pe {H:Type} {l:TypeId×Value→H} {a:Assume} {C:Checked} {K:Os} {f:FuncId} {n:Func} {s:ChangeSpec} {k:List PathCond} {c p h o:Bool} {X:World→Array Value→Prop}
  (O:∀(w L:World) (b:Array Value),w.heap=L.heap→X w b→X L b)
  (own:ownKnob C.prog.godebug=none) (q:K.Started) (u:C.prog.inits.idxOf? f=none) (F:C.prog.funcs[f]? =some n)
  (r:∃(w:World) (d:Tape) (i:Input),w.os=K∧(w.forCall d i).Shaped C.prog∧i.vars=[]∧Input.okWide C.prog (w.forCall d i) .any w.heap.size f i∧
   ((s.pre l C.prog n k c (w.forCall d i).memory i.args∧X (w.forCall d i).memory i.args)∧sizedMet l C.prog n (OpenSpec.ofChange s) c (w.forCall d i).memory i.args)∧a.holds C.prog (lone (Frame.enter C.prog f i.args .normal) [] (w.forCall d i)))
  (m:∀(W:World) (x:Nat) (b:Array Value) (y z:List (DataW H)) (g:List MemPlace),
   (∀(j:Nat) t v,n.params[j]? =some t→b[j]? =some v→Value.okWide C.prog W .any x t v)→
   DataW.Whole l C.prog n.params.toList s.vars c W b.toList y z g→
   k.all (PathCond.test C.prog ⟨n.params.toList,y,s.plain.varTypes C.prog,z⟩)=true→
   (DataW.weightsEach C.prog (n.params.toList++s.plain.varTypes C.prog) (y++z)).all (·≤reachBytes)=true→X W b→
   W.ShapedOpen C.prog→
   Calls C.prog f b W fun e M=>∃v,e= .returned v∧s.post l C.prog n c p h o W b v M):
  ReturnsInHanded a C K f .any (fun w b=>(s.pre l C.prog n k c w b∧X w b)∧sizedMet l C.prog n (OpenSpec.ofChange s) c w b) (s.post l C.prog n c p h o):=by
 refine returnsInHanded_of_calls own q u r ?_;intro w d i _ I _ G B _;obtain ⟨_,_,_,E,A,_,_,_,_,D⟩:=G;have e:E=n:=Option.some.inj (A.symm.trans F);subst e;obtain ⟨⟨⟨y,z,g,N,P⟩,Q⟩,R⟩:=B;have J:=DataW.Whole.of_heap (w':=w.forCall d i) (by rfl) N;refine (m (w.forCall d i) w.heap.size i.args y z g D J P (R.weights N) (O _ _ _ (by rfl) Q) I).mono fun e M ⟨v,he,hp⟩=>?_;subst he;exact ChangeSpec.post_blind hp
theorem Bh {w:World} (h:w.ShapedOpen Tryz.prog):∃m,w.cell? ⟨0,0,none⟩=some (.int .i64 m):=
 cell_of_shapedOpen_int (zero:=#[.int .i64 0]) (t:=3) h (of_decide_eq_true (by kernel_rfl)) (by kernel_rfl) rfl (by kernel_rfl) (by kernel_rfl) Tryz.underlying3
open Go.RowKit
def qF (w:World) (g:Nat) (l:List UInt8):Prop:=∀j,j < l.length→w.cell? ⟨g,j,none⟩=some (.int .u8 ((l.getD j 0).toNat:Int))
theorem qF.below {w b:World} {g:Nat} {l:List UInt8} (h:qF w g l) (c:Below w.heap.size w b):qF b g l:=fun j a=>(c.cell (aC (h j a))).trans (h j a)
theorem qF.string {w:World} {g cap:Nat} {l:List UInt8} (h:qF w g l):(convert 114 9 (.slice (some ⟨g,0,none⟩) l.length cap)).run Tryz.prog w= .ok (.string (bs l)) w:=oP w g cap l.length l rfl h
theorem qF.at {w:World} {g:Nat} {l:List UInt8} (h:qF w g l):BytesAt (bs l) g 0 w:=fun j b=>by
 have a:j < l.length:=by have:=aG l;omega
 rw [Nat.zero_add,h j a,AF l j a,List.getD_eq_getElem?_getD,List.getElem?_eq_getElem a];rfl
theorem oO (l:List UInt8) (g a:Nat) (w:World) (h:qF w g l) (d:l.length≤a) (m:l.length≤1048576) (i:Lib.Utf8Tabs 2 3 w):
  Calls Tryz.prog 232 #[.slice (some ⟨g,0,none⟩) l.length a,.func (.func 138) #[] #[],.bool true] w fun e k=>e= .returned (.int .i64 (Lib.idxFunc tE true (bs l)))∧Below w.heap.size w k:=by
 have f:=aG l;have c:=Any7.bytes_indexFunc (P:=Tryz.prog) Tryz.lays755 138 #[] (fun b w=>enters_of Tryz.func138 rfl rfl b w) tE true (bs l) g 0 a w (by omega) (by omega) h.at i (fun W x j _=>Fa x W j);rw [f] at c;exact c
theorem su (l:List UInt8) (g a:Nat) (w:World) (h:qF w g l) (b:l.length≤a) (o:l.length≤1048576) (f:Lib.Utf8Tabs 2 3 w):
  Calls Tryz.prog 137 #[.slice (some ⟨g,0,none⟩) l.length a,.func (.func 138) #[] #[]] w fun e i=>e= .returned (.bool (l.any tD))∧Below w.heap.size w i:=by
 have j:=Lib.hid (oO l g a w h b o f)
 have c:Calls Tryz.prog 193 #[.slice (some ⟨g,0,none⟩) l.length a,.func (.func 138) #[] #[]] w fun e i=>e= .returned (.int .i64 (Lib.idxFunc tE true (bs l)))∧Below w.heap.size w i:=by
  clear h f;go_enter Tryz.func193,Tryz.ntmps193;go_wp2_with fail
  refine j.out.mono ?_;rintro e p ⟨rfl,d⟩;go_wp2_with fail
  go_ret;exact ⟨rfl,d⟩
 have k:Hid (l.any tD=decide (0≤Lib.idxFunc tE true (bs l))):=Lib.hid (by
  have:=Ej l l.length 0 (by omega) (by omega);rw [List.drop_zero] at this;rw [Bool.eq_iff_iff,decide_eq_true_eq,←this];unfold Lib.idxFunc
  rw [aG])
 obtain ⟨r,m⟩:∃r,Lib.idxFunc tE true (bs l)=r:=⟨_,rfl⟩;rw [m] at c k;have n:=Lib.hid c;clear h f c j m;go_enter Tryz.func137,Tryz.ntmps137;go_wp2_with fail
 refine n.out.mono ?_;rintro e p ⟨rfl,d⟩;go_wp2_with fail
 go_ret;exact ⟨by rw [k.out];rfl,d⟩
theorem qC {c:World} {k:Nat} {a b x y:Value} {t:TypeId} (h:c.heap[k]? =some (.cells #[a,b] t (0,0))):((c.setCell ⟨k,0,none⟩ x).setCell ⟨k,1,none⟩ y).cell? ⟨k,0,none⟩=some x∧((c.setCell ⟨k,0,none⟩ x).setCell ⟨k,1,none⟩ y).cell? ⟨k,1,none⟩=some y∧aL k c ((c.setCell ⟨k,0,none⟩ x).setCell ⟨k,1,none⟩ y):=by
 have e:=heap_setCell_same c k 0 _ _ x h;have d:=heap_setCell_same _ k 1 _ _ y e;exact ⟨by rw [Lib.cell_of_heap d];rfl,by rw [Lib.cell_of_heap d];rfl,((aL.refl _ _).setCell _).setCell _⟩
def jw (l:List UInt8):List UInt8×Bool:=if 100 < l.length || l.any tD then ([],true) else (l,false)
theorem AY (l:List UInt8) (g c:Nat) (w:World) (h:qF w g l) (t:l.length≤c) (L:l.length≤1048576) (z:Lib.Utf8Tabs 2 3 w):
  Calls Tryz.prog 99 #[.slice (some ⟨g,0,none⟩) l.length c] w fun e M=>e= .returned (.agg #[.string (bs (jw l).1),.bool (jw l).2])∧Below w.heap.size w M:=by
 obtain ⟨s,i⟩:∃s:World,w.alloc (.cells #[.string ⟨#[]⟩,.bool false] 138)=s:=⟨_,rfl⟩;have n:Below w.heap.size w s:=by rw [←i];exact (Below.refl _ _).alloc (Nat.le_refl _) _
 have F:s.heap[w.heap.size]? =some (.cells #[.string ⟨#[]⟩,.bool false] 138 (0,0)):=by rw [←i];exact heap_alloc_new w _
 have o:=Lib.hid (su l g c s (h.below n) t L (Utf8Tabs_below z n));have G:=Lib.hid (h.below n);have f:=Lib.hid n;have r:=Lib.hid F;have q:=Lib.hid i;clear i n F
 by_cases d:100 < l.length
 ·have p:Hid (jw l=([],true)):=Lib.hid (by unfold jw;rw [decide_eq_true d];rfl);have K:(100:Int) < (l.length:Int):=by omega
  clear h z o;go_enter Tryz.func99,Tryz.ntmps99;go_wp2_with fail
  have X:=heap_alloc_new w (.cells #[.string ⟨#[]⟩,.bool true] 138);have A:(w.alloc (.cells #[.string ⟨#[]⟩,.bool true] 138)).cell? ⟨w.heap.size,0,none⟩=some (.string ⟨#[]⟩):=by rw [Lib.cell_of_heap X];rfl
  have B:(w.alloc (.cells #[.string ⟨#[]⟩,.bool true] 138)).cell? ⟨w.heap.size,1,none⟩=some (.bool true):=by rw [Lib.cell_of_heap X];rfl
  refine bodyPost_ret (v:= .agg #[.string ⟨#[]⟩,.bool true]) (by simp [results,Tryz.results99,go_sem,A,B]) rfl ?_;exact ⟨by rw [p.out];rfl,(Below.refl _ _).alloc (Nat.le_refl _) _⟩
 ·have K:¬(100:Int) < (l.length:Int):=by omega
  cases m:l.any tD with
  | true=>
   have p:Hid (jw l=([],true)):=Lib.hid (by unfold jw;rw [m,Bool.or_true];rfl);rw [m] at o;clear h z m;go_enter Tryz.func99,Tryz.ntmps99;go_wp2_with fail
   rw [q.out];refine o.out.mono ?_;rintro e u ⟨rfl,a⟩;have b:=ae a r.out;have A:u.cell? ⟨w.heap.size,0,none⟩=some (.string ⟨#[]⟩):=by rw [Lib.cell_of_heap b];rfl
   have B:u.cell? ⟨w.heap.size,1,none⟩=some (.bool false):=by rw [Lib.cell_of_heap b];rfl
   have H:=Lib.frozen_of_heap b 0;have I:=Lib.frozen_of_heap b 1;have k:=Lib.hid b;have j:=Lib.hid (f.out.trans (a.mono f.out.size));clear b a;go_wp2_with fail
   obtain ⟨C,D,E⟩:=qC (x:= .string ⟨#[]⟩) (y:= .bool true) k.out;refine bodyPost_ret (v:= .agg #[.string ⟨#[]⟩,.bool true]) (by simp [results,Tryz.results99,go_sem,C,D]) rfl ?_;exact ⟨by rw [p.out];rfl,j.out.trans (E.below (Nat.le_refl _))⟩
  | false=>
   have p:Hid (jw l=(l,false)):=Lib.hid (by unfold jw;rw [m,decide_eq_false d];rfl);rw [m] at o;clear h z m;go_enter Tryz.func99,Tryz.ntmps99;go_wp2_with fail
   rw [q.out];refine o.out.mono ?_;rintro e u ⟨rfl,a⟩;have J:=(G.out.below a).string (cap:=c);have b:=ae a r.out;have A:u.cell? ⟨w.heap.size,0,none⟩=some (.string ⟨#[]⟩):=by rw [Lib.cell_of_heap b];rfl
   have B:u.cell? ⟨w.heap.size,1,none⟩=some (.bool false):=by rw [Lib.cell_of_heap b];rfl
   have H:=Lib.frozen_of_heap b 0;have I:=Lib.frozen_of_heap b 1;have k:=Lib.hid b;have j:=Lib.hid (f.out.trans (a.mono f.out.size));clear b a;go_wp2_with fail
   obtain ⟨C,D,E⟩:=qC (x:= .string (bs l)) (y:= .bool false) k.out;refine bodyPost_ret (v:= .agg #[.string (bs l),.bool false]) (by simp [results,Tryz.results99,go_sem,C,D]) rfl ?_;exact ⟨by rw [p.out],j.out.trans (E.below (Nat.le_refl _))⟩
open Go.RowKit Go.Maps Go.Shelf
open Go.WideElems (Fit rd rg)
def kL:Value→Option (DataW Unit×List MemPlace):=fun _=>some (.lit (.bool true),[])
theorem GI {P:Program} {k:TypeId} (b:P.underlying k=some (.int .i64)) (q:Nat→Nat) (i:Nat) (c:i < 4294967296):rd P k kL (nM q i)=some (.int .i64 ((i:Int)+1),.lit (.bool true)):=by
 unfold rd nM;rw [keyOf_int_mk b (a:=(i:Int)+1) (WalkArith.wf_i64 (by omega))];rfl
theorem GJ {P:Program} {k:TypeId} (j:P.underlying k=some (.int .i64)) {q:Nat→Nat} {l:List Nat} {c:Nat} (g:∀i∈l,i < c) (h:l.Nodup) (m:c≤1048576) (n:l.length≤c):Fit P k kL (cO q l) c:=by
 refine ⟨by simp [cO];unfold maxLen;omega,(MapKept.stamped_iff _ _).2 ⟨fun x d=>?_,?_,?_⟩,fun x d=>?_⟩
 ·rw [cT] at d;obtain ⟨i,f,rfl⟩:=List.mem_map.1 d;exact g i f
 ·rw [cT,List.map_map];have:((fun x:MapEntry=>x.born) ∘ nM q)=id:=rfl;rw [this,List.map_id];exact h
 ·rw [cT,List.pairwise_map];refine h.imp fun {a b} hne e=>hne ?_;exact Ef q e
 ·rw [cT] at d;obtain ⟨i,f,rfl⟩:=List.mem_map.1 d;exact ⟨_,GI j q i (by have:=g i f;omega)⟩
def iK (l:List Nat):List Int:=l.map fun (i:Nat)=>(i:Int)+1
theorem EU {P:Program} {k:TypeId} (c:P.underlying k=some (.int .i64)) {q:Nat→Nat} {l:List Nat} (d:∀i∈l,i < 4294967296):(intKeys (DataW.map (((cO q l).toList.map (rg P k kL)).foldr DataW.insert []))).Perm (iK l):=by
 have a:(cO q l).toList.map (rg P k kL)=l.map fun (i:Nat)=>(Lit.int .i64 ((i:Int)+1),(.lit (.bool true):DataW Unit)):=by
  rw [cT,List.map_map];exact List.map_congr_left fun i b=>by show rg P k kL (nM q i)=_;unfold rg;rw [GI c q i (d i b)];rfl
 rw [a];show ((List.foldr DataW.insert [] _).map fun p=>Go.intOf p.1).Perm _;refine ((WideShapes.sorted_perm _).map _).trans ?_;rw [List.map_map];exact List.Perm.refl _
theorem AV {l:List Nat} (e:l.Pairwise (·< ·)) {c:List Int} (h:c.Perm (iK l)):c.mergeSort (fun x y=>decide (x≤y))=iK l:=by
 have d:c.mergeSort leI=(iK l).mergeSort leI:=mergeSort_of_perm_i h;refine d.trans (List.mergeSort_of_pairwise ?_);unfold iK;rw [List.pairwise_map];exact e.imp fun {a b} hab=>by simp only [leI,decide_eq_true_eq];omega
theorem oz (S:aa):S.live.Pairwise (·< ·):=(List.pairwise_lt_range).filter _
theorem uG (S:aa):S.live.length≤S.items.length:=by
 unfold aa.live;have:=List.length_filter_le (fun i=> !(S.stayOf i).isEmpty) (List.range S.items.length)
 rwa [List.length_range] at this
theorem xM (x:Int) (w:World):Calls Tryz.prog 172 #[.int .i64 x] w fun e a=>e= .returned (.bool false)∧w=a:=by
 have h:(x != x)=false:=by simp
 go_enter Tryz.func172,Tryz.ntmps172;go_wp2_with fail
 go_ret;exact ⟨by simp,rfl⟩
theorem Am (x y:Int) (w:World):Calls Tryz.prog 122 #[.int .i64 x,.int .i64 y] w fun e d=>(∃r:Int,e= .returned (.int .i64 r))∧w=d:=by
 have b:=Lib.hid (fun w=>xM x w);have c:=Lib.hid (fun w=>xM y w)
 by_cases f:x < y
 ·go_enter Tryz.func122,Tryz.ntmps122;go_wp2_with fail
  refine (b.out w).mono ?_;rintro e a ⟨rfl,rfl⟩;go_wp2_with fail
  refine (c.out w).mono ?_;rintro e a ⟨rfl,rfl⟩;go_wp2_with fail
  go_ret;exact ⟨⟨_,rfl⟩,rfl⟩
 ·by_cases g:y < x
  ·go_enter Tryz.func122,Tryz.ntmps122;go_wp2_with fail
   refine (b.out w).mono ?_;rintro e a ⟨rfl,rfl⟩;go_wp2_with fail
   refine (c.out w).mono ?_;rintro e a ⟨rfl,rfl⟩;go_wp2_with fail
   go_ret;exact ⟨⟨_,rfl⟩,rfl⟩
  ·go_enter Tryz.func122,Tryz.ntmps122;go_wp2_with fail
   refine (b.out w).mono ?_;rintro e a ⟨rfl,rfl⟩;go_wp2_with fail
   refine (c.out w).mono ?_;rintro e a ⟨rfl,rfl⟩;go_wp2_with fail
   go_ret;exact ⟨⟨_,rfl⟩,rfl⟩
theorem J2 (g:Nat) (w:World) (h:∀k,k < 2→∃r:Int,w.cell? ⟨g,k,none⟩=some (.int .i64 r)):
  Calls Tryz.prog 121 #[.slice (some ⟨g,0,none⟩) 2 2] w fun e d=>(∃r:Int,e= .returned (.int .i64 r))∧w=d:=by
 have l:=Lib.hid h;clear h;go_enter Tryz.func121,Tryz.ntmps121;go_wp2_with fail
 go_loopw [5,8] (fun _ i d=>∃k:Nat,k≤2∧i= .int .i64 k∧Hid (w=d)) (fun _ i _=>2 - (intOf i).toNat)
 case atStart=>exact ⟨0,by omega,rfl,Lib.hid (by trivial)⟩
 case round=>
  obtain ⟨k,n,rfl,f⟩:=hrel;have m:=f.out;subst m;clear f
  by_cases c:k < 2
  ·have j:(k:Int) < 2:=by omega
   obtain ⟨r,o⟩:=l.out k c
   by_cases a:r=0
   ·subst a;go_wp2_with fail
    exact ⟨⟨k+1,by omega,by go_num,Lib.hid (by trivial)⟩,by simp [intOf];omega⟩
   ·have a:(r != 0)=true:=by simpa using a
    go_wp2_with fail
    go_ret;exact ⟨⟨_,rfl⟩,rfl⟩
  ·have b:k=2:=by omega
   subst b;go_wp2_with fail
   go_ret;exact ⟨⟨_,rfl⟩,rfl⟩
theorem tY (d s g:Nat) (q:Nat→Nat) (A:Value) (S:aa) (i j:Nat) (w:World) (h:bh d w s g q A S) (I:S.items.length≤4294967295) (f:i∈S.live) (o:j∈S.live):
  Calls Tryz.prog 81 #[.pointer (some ⟨s,0,none⟩),.int .i64 ((i:Int)+1),.int .i64 ((j:Int)+1)] w fun e u=>(∃r:Int,e= .returned (.int .i64 r))∧Below w.heap.size w u:=by
 have n:=bq f;have p:=bq o;have c:∀i∈S.live,i < 4294967296:=fun i f=>by have:=bq f;omega
 obtain ⟨_,L,C,v,_⟩:=h.mail i f;obtain ⟨_,M,D,z,_⟩:=h.mail j o;have E:w.drew.cell? ⟨s,3,none⟩=some (.map (some g)):=by show w.cell? _=_;rw [Lib.cell_of_heap h.bag];rfl
 have F:w.drew.cell? ⟨q i,4,none⟩=some (.int .i64 C.1):=by show w.cell? _=_;rw [Lib.cell_of_heap v];rfl
 have G:w.drew.cell? ⟨q j,4,none⟩=some (.int .i64 D.1):=by show w.cell? _=_;rw [Lib.cell_of_heap z];rfl
 have J:(Instr.lookup 115 (.map (some g)) (.int .i64 ((i:Int)+1)) false).run Tryz.prog w.drew= .ok (.pointer (some ⟨q i,0,none⟩)) w.drew:=
  ig (t:=115) (e:=122) fU Tryz.underlying115 (w:=w.drew) h.map c i (by omega) f false
 have K:(Instr.lookup 115 (.map (some g)) (.int .i64 ((j:Int)+1)) false).run Tryz.prog w.drew= .ok (.pointer (some ⟨q j,0,none⟩)) w.drew:=
  ig (t:=115) (e:=122) fU Tryz.underlying115 (w:=w.drew) h.map c j (by omega) o false
 have l:=Lib.hid (fun (x y:Int) (W:World)=>Am x y W)
 have m:Hid (∀(a b:Int),Calls Tryz.prog 121 #[.slice (some ⟨w.heap.size,0,none⟩) 2 2] (w.drew.alloc (.cells #[.int .i64 a,.int .i64 b] 3)) fun e u=>(∃r:Int,e= .returned (.int .i64 r))∧w.drew.alloc (.cells #[.int .i64 a,.int .i64 b] 3)=u):=Lib.hid (fun a b=>J2 w.heap.size _ (fun k H=>by
  have e:=heap_alloc_new w.drew (.cells #[.int .i64 a,.int .i64 b] 3);have e:(w.drew.alloc (.cells #[.int .i64 a,.int .i64 b] 3)).heap[w.heap.size]? =some (.cells #[.int .i64 a,.int .i64 b] 3 (0,0)):=e;rw [Lib.cell_of_heap e];obtain rfl | rfl:k=0∨k=1:=by omega
  ·exact ⟨a,rfl⟩
  ·exact ⟨b,rfl⟩))
 clear h v z c n p;go_enter Tryz.func81,Tryz.ntmps81;go_wp2_with fail
 go_region_law (first
  | (go_simp;go_at_call 122;refine (l.out _ _ _).mono ?_;rintro e B ⟨⟨r,rfl⟩,rfl⟩;dsimp only)
  | (go_simp;go_at_call 121;refine (m.out _ _).mono ?_;rintro e B ⟨⟨r,rfl⟩,rfl⟩;dsimp only))
 all_goals
  go_wp2_with fail
  go_ret;exact ⟨⟨_,rfl⟩,((Below.refl _ w).drew).alloc (Nat.le_refl _) _⟩
theorem Bi (o I Q:Nat) (q:Nat→Nat) (R v:Value) (S:aa) (l:List Nat) (w:World) (h:bh o w I Q q R S) (hn:S.items.length≤1048576) (N:∀i∈l,i∈S.live) (h1:1≤l.length) (hz:l.length≤1048576) (A:bg w v l.length 1 ((iK l).map fun (i:Int)=> .int .i64 i)):
  Calls Tryz.prog 80 #[v,.func (.func 81) #[.pointer (some ⟨I,0,none⟩)] #[]] w fun e J=>∃i∈l,e= .returned (.int .i64 ((i:Int)+1))∧Below w.heap.size w J:=by
 have U:=Lib.hid A;have T:=Lib.hid h;have K:=Lib.hid N;obtain ⟨a,D,rfl,x⟩:=A.one;obtain ⟨V,y,rfl,_,f⟩:=x 0 (by omega);have c:∀(k:Nat) (F:k < l.length),((iK l).map fun (i:Int)=>Value.int .i64 i)[k]? =some (.int .i64 ((l[k]:Int)+1)):=fun k F=>by simp [iK,F]
 rw [c 0 (by omega)] at f;have C:=Lib.hid c;have n:l[0]∈l:=List.getElem_mem _
 generalize l[0]=i0 at f n
 have O:¬(l.length:Int) < 1:=by omega
 have M:l.length≤D:=A.cap;clear A h x N c;rw [Nat.add_zero] at f;go_enter Tryz.func80,Tryz.ntmps80;go_wp2_with fail
 go_loopw [5,6] (fun m i J=>∃(k j:Nat),1≤k∧k≤l.length∧i= .int .i64 k∧j∈l∧m= .int .i64 ((j:Int)+1)∧Hid (Below w.heap.size w J)) (fun _ i _=>l.length - (intOf i).toNat)
 case atStart=>exact ⟨1,i0,by omega,by omega,rfl,n,rfl,Lib.hid (Below.refl _ _)⟩
 case round=>
  obtain ⟨k,j,Y,F,rfl,E,rfl,t⟩:=hrel
  by_cases s:k < l.length
  ·have P:(k:Int) < (l.length:Int):=by omega
   obtain ⟨a',L,W,x⟩:=(U.out.below t.out).one;injection W with ea1 _ ea3;obtain ⟨b,Z,z,_,d⟩:=x k s;rw [←ea1] at z;injection z with z;injection z with e3 e4;subst e3 e4;rw [C.out k s] at d;have g:l[k]∈l:=List.getElem_mem s
   generalize l[k]=i at d g
   have H:w.heap.size≤wr.heap.size:=t.out.size;have B:=Lib.hid (tY o I Q q R S i j wr (T.out.keep t.out) (by omega) (K.out i g) (K.out j E));clear x ea1 ea3;go_wp2_with (first | (go_at_call 81;refine B.out.mono ?_;rintro e w2 ⟨⟨r,rfl⟩,p⟩;have X:w2.cell? ⟨V,y+k,none⟩=some (.int .i64 ((i:Int)+1)):=((p.cell (aC d)).trans d);have u:=Lib.hid (t.out.trans (p.mono H));clear p) | fail)
   all_goals
    first
    | exact ⟨⟨k+1,i,by omega,by omega,by go_num,g,rfl,u⟩,by simp [intOf];omega⟩
    | exact ⟨⟨k+1,j,by omega,by omega,by go_num,E,rfl,u⟩,by simp [intOf];omega⟩
  ·have G:k=l.length:=by omega
   subst G;go_wp2_with fail
   go_ret;exact ⟨j,E,rfl,t.out⟩
def cM (c n:Int):Int:=(if c < 0 then -(c+1) else c) % n
theorem dt (c:Int) {n:Int} (a:0 < n):0≤cM c n∧cM c n < n:=⟨Int.emod_nonneg _ (by omega),Int.emod_lt_of_pos _ a⟩
theorem bZ (c n:Int) (w:World) (p: -9223372036854775808≤c) (q:c≤9223372036854775807) (g:0 < n) (i:n≤9223372036854775807):
  Calls Tryz.prog 20 #[.int .i64 c,.int .i64 n] w fun e l=>e= .returned (.int .i64 (cM c n))∧w=l:=by
 have j:¬n=0:=by omega
 have d:∀x:Int,0≤x→x.tmod n=x % n:=fun x k=>Int.tmod_eq_emod_of_nonneg k
 by_cases f:c < 0
 ·have m:IntKind.i64.wrap (c+1)=c+1:=by rw [IntKind.wrap_i64];omega
  have o:IntKind.i64.wrap (-(c+1))= -(c+1):=by rw [IntKind.wrap_i64];omega
  have a:cM c n= -(c+1).tmod n:=by rw [←Int.neg_tmod];unfold cM;rw [if_pos f,d _ (by omega)]
  have b:=dt c g;rw [a] at b ⊢;have h:IntKind.i64.wrap (-(c+1).tmod n)= -(c+1).tmod n:=by rw [IntKind.wrap_i64];omega
  go_enter Tryz.func20,Tryz.ntmps20;go_wp2_with fail
  go_ret;exact ⟨rfl,rfl⟩
 ·have a:cM c n=c.tmod n:=by unfold cM;rw [if_neg f,d _ (by omega)]
  have b:=dt c g;rw [a] at b ⊢;have h:IntKind.i64.wrap (c.tmod n)=c.tmod n:=by rw [IntKind.wrap_i64];omega
  go_enter Tryz.func20,Tryz.ntmps20;go_wp2_with fail
  go_ret;exact ⟨rfl,rfl⟩
end Go.Proofs.YtofpegbpgkkgkaaGreatDoor
