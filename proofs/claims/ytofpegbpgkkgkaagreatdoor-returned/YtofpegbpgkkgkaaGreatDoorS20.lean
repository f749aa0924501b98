import Derived.Deep.SlicePairs
import Derived.SizedLaws
import Derived.Test.YtofpegbpgkkgkaaGreatDoorS19
import Derived.Test.YtofpegbpgkkgkaaGreatDoorS16
import Derived.Laws.OwnMore
namespace Go.Proofs.YtofpegbpgkkgkaaGreatDoor
set_option maxHeartbeats 8000000
set_option maxRecDepth 1000000
open Go.ChangeShapes Go.WideShapes Go.RowKit Go.Deep
section
variable {H:Type} {enc:TypeId×Value→H} {w:World} {base:Nat} {spare:Nat→Bool} {held:Bool}
theorem Ir:reachBytes=140737488351232:=by decide
theorem EG:Tryz.prog.cellsOf 3=1:=by kernel_rfl
theorem zx {P:Program} {t e:TypeId} {a c:List (DataW H)} (f:P.underlying t=some (.slice e)) (b:((DataW.slice a c).weights P t).all (·≤reachBytes)=true):a.length * P.bytesOf e≤140737488351232:=by
 simp only [DataW.weights,f,List.all_cons,Bool.and_eq_true,decide_eq_true_eq] at b;have d:=b.1;rw [Ir] at d;have g:a.length * P.bytesOf e≤(a.length+c.length) * P.bytesOf e:=Nat.mul_le_mul_right _ (by omega);omega
theorem J4 {a:Addr} {c d h:Nat} {i:List Value} (k:0 < h) (q:i.length=c * h) (f:c≤d) (n:∀j:Nat,j < c * h→w.cell? (a.add j)=i[j]?):bg w (.slice (some a) c d) c h i:=by
 refine ⟨q,?_⟩
 rcases Nat.eq_zero_or_pos c with rfl | r
 ·exact .inl ⟨rfl,_,_,rfl⟩
 ·obtain ⟨b,l,g⟩:=a;have o:0 < c * h:=Nat.mul_pos r k;have m:=n 0 o;rw [List.getElem?_eq_getElem (by omega)] at m;have e:g=none:=by simpa [Addr.add] using World.cell?_spot m
  subst e;exact .inr ⟨b,l,d,rfl,f,fun j p=>by rw [←add_plain];exact n j p⟩
theorem rD {P:Program} {b:List TypeId} {a:List (DataW H)} (h:(DataW.weightsEach P b a).all (·≤reachBytes)=true) {j:Nat} {t:TypeId} {d:DataW H} (f:b[j]? =some t) (c:a[j]? =some d):(d.weights P t).all (·≤reachBytes)=true:=
 List.all_eq_true.2 fun n e=>List.all_eq_true.1 h n (DataW.weights_mem_each f c n e)
end
open Go.RowKit
def qF (w:World) (g:Nat) (l:List UInt8):Prop:=∀j,j < l.length→w.cell? ⟨g,j,none⟩=some (.int .u8 ((l.getD j 0).toNat:Int))
theorem qF.below {w b:World} {g:Nat} {l:List UInt8} (h:qF w g l) (c:Below w.heap.size w b):qF b g l:=fun j a=>(c.cell (eI (h j a))).trans (h j a)
theorem qF.string {w:World} {g cap:Nat} {l:List UInt8} (h:qF w g l):(convert 114 9 (.slice (some ⟨g,0,none⟩) l.length cap)).run Tryz.prog w= .ok (.string (bs l)) w:=oP w g cap l.length l rfl h
theorem qF.at {w:World} {g:Nat} {l:List UInt8} (h:qF w g l):BytesAt (bs l) g 0 w:=fun j b=>by
 have a:j < l.length:=by have:=aG l;omega
 rw [Nat.zero_add,h j a,AF l j a,List.getD_eq_getElem?_getD,List.getElem?_eq_getElem a];rfl
theorem oO (l:List UInt8) (g a:Nat) (w:World) (h:qF w g l) (d:l.length≤a) (m:l.length≤1048576) (i:Lib.Utf8Tabs 2 3 w):
  Calls Tryz.prog 232 #[.slice (some ⟨g,0,none⟩) l.length a,.func (.func 138) #[] #[],.bool true] w fun e k=>e= .returned (.int .i64 (Lib.idxFunc tE true (bs l)))∧Below w.heap.size w k:=by
 have f:=aG l;have c:=Any7.bytes_indexFunc (P:=Tryz.prog) Tryz.lays755 138 #[] (fun b w=>enters_of Tryz.func138 rfl rfl b w) tE true (bs l) g 0 a w (by omega) (by omega) h.at i (fun W x j _=>Fa x W j);rw [f] at c;exact c
theorem su (l:List UInt8) (g a:Nat) (w:World) (h:qF w g l) (b:l.length≤a) (o:l.length≤1048576) (f:Lib.Utf8Tabs 2 3 w):
  Calls Tryz.prog 137 #[.slice (some ⟨g,0,none⟩) l.length a,.func (.func 138) #[] #[]] w fun e i=>e= .returned (.bool (l.any tD))∧Below w.heap.size w i:=by
 have j:=Lib.hid (oO l g a w h b o f)
 have c:Calls Tryz.prog 193 #[.slice (some ⟨g,0,none⟩) l.length a,.func (.func 138) #[] #[]] w fun e i=>e= .returned (.int .i64 (Lib.idxFunc tE true (bs l)))∧Below w.heap.size w i:=by
  clear h f;go_enter Tryz.func193,Tryz.ntmps193;go_wp2_with fail
  refine j.out.mono ?_;rintro e p ⟨rfl,d⟩;go_wp2_with fail
  go_ret;exact ⟨rfl,d⟩
 have k:Hid (l.any tD=decide (0≤Lib.idxFunc tE true (bs l))):=Lib.hid (by
  have:=Ej l l.length 0 (by omega) (by omega);rw [List.drop_zero] at this;rw [Bool.eq_iff_iff,decide_eq_true_eq,←this];unfold Lib.idxFunc
  rw [aG])
 obtain ⟨r,m⟩:∃r,Lib.idxFunc tE true (bs l)=r:=⟨_,rfl⟩;rw [m] at c k;have n:=Lib.hid c;clear h f c j m;go_enter Tryz.func137,Tryz.ntmps137;go_wp2_with fail
 refine n.out.mono ?_;rintro e p ⟨rfl,d⟩;go_wp2_with fail
 go_ret;exact ⟨by rw [k.out];rfl,d⟩
theorem qC {c:World} {k:Nat} {a b x y:Value} {t:TypeId} (h:c.heap[k]? =some (.cells #[a,b] t (0,0))):((c.setCell ⟨k,0,none⟩ x).setCell ⟨k,1,none⟩ y).cell? ⟨k,0,none⟩=some x∧((c.setCell ⟨k,0,none⟩ x).setCell ⟨k,1,none⟩ y).cell? ⟨k,1,none⟩=some y∧aL k c ((c.setCell ⟨k,0,none⟩ x).setCell ⟨k,1,none⟩ y):=by
 have e:=heap_setCell_same c k 0 _ _ x h;have d:=heap_setCell_same _ k 1 _ _ y e;exact ⟨by rw [Lib.cell_of_heap d];rfl,by rw [Lib.cell_of_heap d];rfl,((aL.refl _ _).setCell _).setCell _⟩
def jw (l:List UInt8):List UInt8×Bool:=if 100 < l.length || l.any tD then ([],true) else (l,false)
theorem AY (l:List UInt8) (g c:Nat) (w:World) (h:qF w g l) (t:l.length≤c) (L:l.length≤1048576) (z:Lib.Utf8Tabs 2 3 w):
  Calls Tryz.prog 99 #[.slice (some ⟨g,0,none⟩) l.length c] w fun e M=>e= .returned (.agg #[.string (bs (jw l).1),.bool (jw l).2])∧Below w.heap.size w M:=by
 obtain ⟨s,i⟩:∃s:World,w.alloc (.cells #[.string ⟨#[]⟩,.bool false] 138)=s:=⟨_,rfl⟩;have n:Below w.heap.size w s:=by rw [←i];exact (Below.refl _ _).alloc (Nat.le_refl _) _
 have F:s.heap[w.heap.size]? =some (.cells #[.string ⟨#[]⟩,.bool false] 138 (0,0)):=by rw [←i];exact heap_alloc_new w _
 have o:=Lib.hid (su l g c s (h.below n) t L (Utf8Tabs_below z n));have G:=Lib.hid (h.below n);have f:=Lib.hid n;have r:=Lib.hid F;have q:=Lib.hid i;clear i n F
 by_cases d:100 < l.length
 ·have p:Hid (jw l=([],true)):=Lib.hid (by unfold jw;rw [decide_eq_true d];rfl);have K:(100:Int) < (l.length:Int):=by omega
  clear h z o;go_enter Tryz.func99,Tryz.ntmps99;go_wp2_with fail
  have X:=heap_alloc_new w (.cells #[.string ⟨#[]⟩,.bool true] 138);have A:(w.alloc (.cells #[.string ⟨#[]⟩,.bool true] 138)).cell? ⟨w.heap.size,0,none⟩=some (.string ⟨#[]⟩):=by rw [Lib.cell_of_heap X];rfl
  have B:(w.alloc (.cells #[.string ⟨#[]⟩,.bool true] 138)).cell? ⟨w.heap.size,1,none⟩=some (.bool true):=by rw [Lib.cell_of_heap X];rfl
  refine bodyPost_ret (v:= .agg #[.string ⟨#[]⟩,.bool true]) (by simp [results,Tryz.results99,go_sem,A,B]) rfl ?_;exact ⟨by rw [p.out];rfl,(Below.refl _ _).alloc (Nat.le_refl _) _⟩
 ·have K:¬(100:Int) < (l.length:Int):=by omega
  cases m:l.any tD with
  | true=>
   have p:Hid (jw l=([],true)):=Lib.hid (by unfold jw;rw [m,Bool.or_true];rfl);rw [m] at o;clear h z m;go_enter Tryz.func99,Tryz.ntmps99;go_wp2_with fail
   rw [q.out];refine o.out.mono ?_;rintro e u ⟨rfl,a⟩;have b:=ae a r.out;have A:u.cell? ⟨w.heap.size,0,none⟩=some (.string ⟨#[]⟩):=by rw [Lib.cell_of_heap b];rfl
   have B:u.cell? ⟨w.heap.size,1,none⟩=some (.bool false):=by rw [Lib.cell_of_heap b];rfl
   have H:=Lib.frozen_of_heap b 0;have I:=Lib.frozen_of_heap b 1;have k:=Lib.hid b;have j:=Lib.hid (f.out.trans (a.mono f.out.size));clear b a;go_wp2_with fail
   obtain ⟨C,D,E⟩:=qC (x:= .string ⟨#[]⟩) (y:= .bool true) k.out;refine bodyPost_ret (v:= .agg #[.string ⟨#[]⟩,.bool true]) (by simp [results,Tryz.results99,go_sem,C,D]) rfl ?_;exact ⟨by rw [p.out];rfl,j.out.trans (E.below (Nat.le_refl _))⟩
  | false=>
   have p:Hid (jw l=(l,false)):=Lib.hid (by unfold jw;rw [m,decide_eq_false d];rfl);rw [m] at o;clear h z m;go_enter Tryz.func99,Tryz.ntmps99;go_wp2_with fail
   rw [q.out];refine o.out.mono ?_;rintro e u ⟨rfl,a⟩;have J:=(G.out.below a).string (cap:=c);have b:=ae a r.out;have A:u.cell? ⟨w.heap.size,0,none⟩=some (.string ⟨#[]⟩):=by rw [Lib.cell_of_heap b];rfl
   have B:u.cell? ⟨w.heap.size,1,none⟩=some (.bool false):=by rw [Lib.cell_of_heap b];rfl
   have H:=Lib.frozen_of_heap b 0;have I:=Lib.frozen_of_heap b 1;have k:=Lib.hid b;have j:=Lib.hid (f.out.trans (a.mono f.out.size));clear b a;go_wp2_with fail
   obtain ⟨C,D,E⟩:=qC (x:= .string (bs l)) (y:= .bool false) k.out;refine bodyPost_ret (v:= .agg #[.string (bs l),.bool false]) (by simp [results,Tryz.results99,go_sem,C,D]) rfl ?_;exact ⟨by rw [p.out],j.out.trans (E.below (Nat.le_refl _))⟩
def lF (w:World) (v:Value) (l:List UInt8):Prop:=w.ownsRow 0 5 1 v l.length (Lib.byteCells l)
theorem aL.drew' {b:Nat} {w a:World} (h:aL b w a):aL b w a.drew:=⟨h.1,h.2,h.3.trans ⟨rfl,rfl,rfl⟩⟩
theorem lF.parts {w:World} {v:Value} {l:List UInt8} (h:lF w v l) (k:l≠[]):∃g a b,v= .slice (some ⟨g,0,none⟩) l.length a∧w.heap[g]? =some (.cells b 5 (0,0))∧l.length≤a∧a≤maxLen∧b.size=a∧b.toList.take l.length=Lib.byteCells l:=by
 rcases h.2 with ⟨_,d⟩ | ⟨g,a,b,e,_,j,f,i,m,c⟩
 ·exact absurd (List.length_eq_zero_iff.1 d) k
 ·exact ⟨g,a,b,e,j,f,i,by omega,by rw [Nat.mul_one] at c;exact c⟩
theorem lF.mk {w:World} {l:List UInt8} {g cap:Nat} {a:Array Value} (e:w.heap[g]? =some (.cells a 5 (0,0))) (b:l.length≤cap) (c:cap≤maxLen) (f:a.size=cap) (d:a.toList.take l.length=Lib.byteCells l):lF w (.slice (some ⟨g,0,none⟩) l.length cap) l:=
 ⟨by rw [Nat.mul_one];exact gR l,.inr ⟨g,cap,a,rfl,Nat.zero_le _,e,b,c,by omega,by rw [Nat.mul_one];exact d⟩⟩
theorem yR {a:Array Value} {l:List UInt8} (h:a.toList.take l.length=Lib.byteCells l) (j:Nat) (b:j < l.length):a[j]? =some (.int .u8 ((l.getD j 0).toNat:Int)):=by
 rw [←Array.getElem?_toList,←List.getElem?_take_of_lt b,h,Lib.byteCells,List.getElem?_map,List.getElem?_eq_getElem b,List.getD_eq_getElem?_getD,List.getElem?_eq_getElem b];rfl
def lk (l:List UInt8):List UInt8:=if 102 < l.length then l.take 101++[l.getD 102 0] else l
theorem DI (l:List UInt8):(lk l).length≤102:=by
 unfold lk
 split
 ·rename_i h
  simp only [List.length_append,List.length_take,List.length_cons,List.length_nil];omega
 ·omega
structure ll (w:World) (sb:Nat) (C:Array Value) (v:Value) (l:List UInt8):Prop where
 blk:w.heap[sb]? =some (.cells C 130 (0,0))
 size:C.size=9
 at2:C[2]? =some v
 row:lF w v l
theorem ll.far {w:World} {sb:Nat} {C:Array Value} {v:Value} {l:List UInt8} (h:ll w sb C v l):v.ownBlock≠some sb:=fun e=>by
 obtain ⟨b,a⟩:=dm h.row e;rw [h.blk] at a;simp at a
theorem ll.below {w b:World} {sb:Nat} {C:Array Value} {v:Value} {l:List UInt8} (h:ll w sb C v l) (a:Below w.heap.size w b):ll b sb C v l:=⟨ae a h.blk,h.size,h.at2,ep h.row fun _ _ e _=>ae a e⟩
def oI (sb:Nat) (C:Array Value) (v:Value) (l':List UInt8) (w w':World):Prop:=
 ∃v',ll w' sb (C.setIfInBounds 2 v') v' l'∧aH (fun k=>k=sb∨v.ownBlock=some k) w w'∧∀k,v'.ownBlock=some k→v.ownBlock=some k∨w.heap.size≤k
theorem BJ (sb:Nat) (C:Array Value) (v:Value) (l:List UInt8) (w:World) (h:ll w sb C v l) (hl:l.length≤103) (t:1≤l.length):
  Calls Tryz.prog 98 #[.pointer (some ⟨sb,2,none⟩)] w fun e w'=>e= .returned (.tuple #[])∧oI sb C v (lk l) w w':=by
 obtain ⟨g,a,V,rfl,q,p1,Y,Z,y⟩:=h.row.parts (fun e=>by rw [e] at t;simp at t);have S:w.cell? ⟨sb,2,none⟩=some (.slice (some ⟨g,0,none⟩) l.length a):=by rw [Lib.cell_of_heap h.blk];exact h.at2
 have f2:=Lib.frozen_of_heap h.blk 2
 have r:C.setIfInBounds 2 (.slice (some ⟨g,0,none⟩) l.length a)=C:=by
  apply Array.ext_getElem?;intro i;rw [Array.getElem?_setIfInBounds]
  split
  ·rename_i H
   subst H;rw [h.at2,if_pos (by have:=h.size;omega)]
  ·rfl
 by_cases c:102 < l.length
 ·have I:l.length=103:=by omega
  obtain ⟨d,p⟩:∃d,l.getD 102 0=d:=⟨_,rfl⟩;obtain ⟨J,x⟩:∃J,l.getD 101 0=J:=⟨_,rfl⟩;have u:sb≠g:=fun e=>h.far (by rw [e];rfl);have M:w.drew.cell? ⟨g,101,none⟩=some (.int .u8 (J.toNat:Int)):=by show w.cell? _=_;rw [Lib.cell_of_heap q,←x];exact yR y 101 (by omega)
  have N:w.drew.cell? ⟨g,102,none⟩=some (.int .u8 (d.toNat:Int)):=by show w.cell? _=_;rw [Lib.cell_of_heap q,←p];exact yR y 102 (by omega)
  have fg:w.drew.frozen? ⟨g,101,none⟩=false:=Lib.frozen_of_heap q 101;have U:w.drew.cell? ⟨sb,2,none⟩=some (.slice (some ⟨g,0,none⟩) l.length a):=S;have H:(102:Int) < (l.length:Int):=by omega
  have X:(101:Int) < (l.length:Int):=by omega
  have z:aL g w ((w.setCell ⟨g,101,none⟩ (.int .u8 (d.toNat:Int))).drew):=((aL.refl _ _).setCell _).drew';have b:=heap_setCell_same w g 101 _ _ (.int .u8 (d.toNat:Int)) q;obtain ⟨f,n⟩:∃f:World,(w.setCell ⟨g,101,none⟩ (.int .u8 (d.toNat:Int))).drew=f:=⟨_,rfl⟩;have F:=Lib.hid n;replace b:(w.setCell ⟨g,101,none⟩ (.int .u8 (d.toNat:Int))).drew.heap[g]? =_:=b;rw [n] at z b;have m:=(z.2 sb u).trans h.blk;have E:Hid (lk l=l.take 101++[d]):=Lib.hid (by unfold lk;rw [if_pos c,p]);have G:aL sb f (f.setCell ⟨sb,2,none⟩ (.slice (some ⟨g,0,none⟩) 102 a)):=(aL.refl _ _).setCell _;have o:(l.take 101++[d]).length=102:=by simp only [List.length_append,List.length_take,List.length_cons,List.length_nil];omega
  have L:lF (f.setCell ⟨sb,2,none⟩ (.slice (some ⟨g,0,none⟩) 102 a)) (.slice (some ⟨g,0,none⟩) 102 a) (l.take 101++[d]):=by
   have:=lF.mk (l:=l.take 101++[d]) (w:=f.setCell ⟨sb,2,none⟩ (.slice (some ⟨g,0,none⟩) 102 a)) (cap:=a) ((G.2 g (Ne.symm u)).trans b) (by omega) Y (by simp [Z]) (by
    rw [o];apply List.ext_getElem?;intro j;rw [List.getElem?_take]
    by_cases P:j < 102
    ·rw [if_pos P,Array.getElem?_toList]
     by_cases s:j=101
     ·subst s;rw [Array.getElem?_setIfInBounds_self_of_lt (by omega),Lib.byteCells,List.getElem?_map,List.getElem?_append_right (by rw [List.length_take];omega),List.length_take,show 101 - min 101 l.length=0 by omega]
      rfl
     ·rw [Array.getElem?_setIfInBounds_ne (fun e=>s e.symm),yR y j (by omega)];rw [Lib.byteCells,List.getElem?_map,List.getElem?_append_left (by rw [List.length_take];omega),List.getElem?_take_of_lt (by omega),List.getElem?_eq_getElem (by omega),List.getD_eq_getElem?_getD,List.getElem?_eq_getElem (by omega)];rfl
    ·rw [if_neg P,List.getElem?_eq_none (by rw [gR];omega)])
   rw [o] at this;exact this
  have D:=Lib.hid L;have R:Hid (aH (fun k=>k=sb∨(Value.slice (some ⟨g,0,none⟩) l.length a).ownBlock=some k) w (f.setCell ⟨sb,2,none⟩ (.slice (some ⟨g,0,none⟩) 102 a))):=Lib.hid (((aH.same z).mono (fun k _ e=> .inr (by rw [e];rfl))).trans (aH.same G) (fun _ _ e=> .inl e));have A:=Lib.hid (heap_setCell_same f sb 2 _ _ (.slice (some ⟨g,0,none⟩) 102 a) m);have T:f.cell? ⟨sb,2,none⟩=some (.slice (some ⟨g,0,none⟩) l.length a):=by rw [Lib.cell_of_heap m];exact h.at2
  have W:=Lib.frozen_of_heap m 2;have K:=Lib.hid h.size;have O:(102:Int)≤(a:Int):=by omega
  clear h q b z G L m y n x p I o;go_enter Tryz.func98,Tryz.ntmps98;go_wp2_with fail
  go_region
  rw [F.out];go_wp2_with fail
  refine bodyPost_end (results_none rfl _ _ _) rfl ?_;exact ⟨rfl,.slice (some ⟨g,0,none⟩) 102 a,by rw [E.out];exact ⟨A.out,by rw [Array.size_setIfInBounds];exact K.out,by rw [Array.getElem?_setIfInBounds_self_of_lt (by have:=K.out;omega)],D.out⟩,R.out,fun k e=> .inl e⟩
 ·have E:Hid (lk l=l):=Lib.hid (by unfold lk;rw [if_neg c]);have H:¬(102:Int) < (l.length:Int):=by omega
  have Q:=Lib.hid h;have B:=Lib.hid r;clear h q y r;go_enter Tryz.func98,Tryz.ntmps98;go_wp2_with fail
  refine bodyPost_end (results_none rfl _ _ _) rfl ?_;exact ⟨rfl,_,by rw [E.out,B.out];exact Q.out,aH.refl _ _,fun k e=> .inl e⟩
def pK (l:List UInt8):Bool:=Lib.hasSuffix l [13,10]
def j4 (wait:List UInt8) (b:UInt8):List UInt8×Option (List UInt8×Bool):=
 if pK (wait++[b]) then ([],some (jw ((wait++[b]).take ((wait++[b]).length - 2)))) else (lk (wait++[b]),none)
def th (o:Option (List UInt8×Bool)):Value:=
 match o with
 | none=> .tuple #[.agg #[.string ⟨#[]⟩,.bool false],.bool false]
 | some x=> .tuple #[.agg #[.string (bs x.1),.bool x.2],.bool true]
def qQ (l:List UInt8):List Int:=l.map fun b=>(b.toNat:Int)
theorem yI (l:List UInt8):Lib.bytesOf (qQ l)=l:=by
 unfold Lib.bytesOf qQ;rw [List.map_map];conv=>rhs;rw [←List.map_id l]
 congr 1
 funext b
 simp
theorem AO (l:List UInt8) (i:Nat) (h:i < l.length):(qQ l).getD i 0=((l.getD i 0).toNat:Int):=by
 rw [List.getD_eq_getElem?_getD,List.getD_eq_getElem?_getD,qQ,List.getElem?_map,List.getElem?_eq_getElem h];rfl
theorem lF.by {w:World} {l:List UInt8} {g n cap:Nat} (h:lF w (.slice (some ⟨g,0,none⟩) n cap) l):qF w g l:=fun j a=>by
 obtain ⟨f,b,cur,e,d,_,_,_,c⟩:=h.parts (fun e=>by rw [e] at a;simp at a);injection e with e _ _;injection e with e;injection e with e _;subst e;rw [Lib.cell_of_heap d];exact yR c j a
theorem wD (l:List UInt8) (g a c:Nat) (w:World) (h:qF w g l) (b:l.length≤a) (k:l.length≤1048576) (j:w.heap[c]? =some (.cells #[.int .u8 13,.int .u8 10] 5 (2,3))):
  Calls Tryz.prog 97 #[.slice (some ⟨g,0,none⟩) l.length a,.slice (some ⟨c,0,none⟩) 2 2] w fun e f=>e= .returned (.tuple #[if pK l then .slice (some ⟨g,0,none⟩) (l.length - 2) a else .slice (some ⟨g,0,none⟩) l.length a,.bool (pK l)])∧f=w:=by
 refine (Tryz.bytes_CutSuffix g 0 l.length a c 0 2 2 (qQ l) [13,10] w (by simp [qQ]) rfl b (by omega) (fun i d=>?_) (fun i d=>?_)).mono ?_
 ·rw [Nat.zero_add,AO l i d];exact h i d
 ·rw [Nat.zero_add,Lib.cell_of_heap j];have:i=0∨i=1:=by omega
  rcases this with rfl | rfl <;> rfl
 ·rintro e f ⟨rfl,rfl⟩;refine ⟨?_,rfl⟩;unfold Lib.bytesTrimSuffix Lib.sliceTo;rw [yI,show Lib.bytesOf [13,10]=[13,10] from rfl];rfl
structure LJ (s:Nat) (w:World) (v:Value) (l:List (List UInt8)):Prop where
 row:w.ownsRow s 9 1 v l.length (cm l)
 nil:l=[]→v= .slice none 0 0
section
variable {s:Nat} {w w':World} {v:Value} {l:List (List UInt8)}
theorem LJ.zero (s:Nat) (w:World):LJ s w (.slice none 0 0) []:=⟨(World.ownsRow_nil _ _ _ _:w.ownsRow s 9 1 (.slice none 0 0) 0 []),fun _=>rfl⟩
theorem LJ.chg {A:Nat→Prop} (h:LJ s w v l) (a:aH A w w') (b:∀g,v.ownBlock=some g→¬A g):LJ s w' v l:=⟨bC h.row a b,h.nil⟩
theorem LJ.below (h:LJ s w v l) (a:Below w.heap.size w w'):LJ s w' v l:=h.chg (aH.below a:aH (fun _=>False) w w') (fun _ _ e=>e)
theorem LJ.ge (h:LJ s w v l) {g:Nat} (e:v.ownBlock=some g):s≤g∧g < w.heap.size:=kD h.row e
theorem LJ.at (h:LJ s w v l):bg w v l.length 1 (cm l):=aF h.row
theorem LJ.mono {c:Nat} (h:LJ s w v l) (i:c≤s):LJ c w v l:=by
 refine ⟨⟨h.row.1,?_⟩,h.nil⟩
 rcases h.row.2 with e | ⟨g,a,b,d,f,r⟩
 ·exact .inl e
 ·exact .inr ⟨g,a,b,d,Nat.le_trans i f,r⟩
theorem Mq {l:List (List UInt8)}:∀u∈cm l,u.oneCell'=true:=fun u a=>by
 obtain ⟨t,_,rfl⟩:=List.mem_map.1 a;rfl
theorem LJ.one (h:LJ s w v l) (y:List UInt8) (A:l.length≤255) (z:s≤w.heap.size):∃g a w',(Builtin.append_ #[25,25] 25 #[v,.slice (some ⟨w.heap.size,0,none⟩) 1 1]).run Tryz.prog (w.alloc (.cells #[.string (bs y)] 9))= .ok (.slice (some ⟨g,0,none⟩) (l.length+1) a) w'∧LJ s w' (.slice (some ⟨g,0,none⟩) (l.length+1) a) (l++[y])∧aH (fun k=>v.ownBlock=some k) w w'∧(v.ownBlock=some g∨w.heap.size≤g):=by
 obtain ⟨i,x,j,m,n⟩:=info_parts nR;have f:Below w.heap.size w (w.alloc (.cells #[.string (bs y)] 9)):=(Below.refl _ _).alloc (Nat.le_refl _) _;have c:=ep h.row (w':=w.alloc (.cells #[.string (bs y)] 9)) fun g q e _=>ae f e;obtain ⟨g,a,w',r,o,d⟩:=gC (P:=Tryz.prog) (w.alloc (.cells #[.string (bs y)] 9)) 25 25 s 9 i _ 1 _ Tryz.underlying25 x j m n rfl (by decide) v l.length (cm l) c ⟨w.heap.size,0,none⟩ 1 1 [.string (bs y)] rfl (World.news_of_block (cs:=#[.string (bs y)]) (t:=9) (fr:=(0,0)) (heap_alloc_new w _)) (by intro u p;simp at p;rw [p];rfl) (by decide) (by unfold maxLen;omega) (by omega) (Nat.le_trans z f.size);have b:cm l++[Value.string (bs y)]=cm (l++[y]):=by simp [cm]
 rw [b] at o;refine ⟨g,a,w',r,⟨by rw [List.length_append];exact o,fun e=>by simp at e⟩,?_,?_⟩
 ·refine (aH.below f:aH (fun k=>v.ownBlock=some k) w _).trans (A1:=fun k=>v.ownBlock=some k) ?_ (fun k _ e=>e)
  rcases d with ⟨b,d⟩ | ⟨_,d⟩
  ·exact (aH.grown d).mono fun k _ e=>b.trans e
  ·exact (aH.grown d).mono fun k _ e=>by cases e
 ·rcases d with ⟨b,_⟩ | ⟨b,_⟩
  ·exact .inl b
  ·exact .inr (by rw [b];exact f.size)
theorem LJ.more (h:LJ s w v l) {N:Nat} {u:Value} {x:List (List UInt8)} (E:LJ N w u x) (O:l.length≤255) (M:x.length≤255) (L:s≤w.heap.size):∃z w',(Builtin.append_ #[25,25] 25 #[v,u]).run Tryz.prog w= .ok z w'∧LJ s w' z (l++x)∧aH (fun k=>v.ownBlock=some k) w w'∧∀g,z.ownBlock=some g→v.ownBlock=some g∨w.heap.size≤g:=by
 obtain ⟨i,D,r,t,y⟩:=info_parts nR
 by_cases m:x=[]
 ·have H:=E.nil m;subst m H;exact ⟨v,w,run_append_owned_none w s 25 25 9 i 1 Tryz.underlying25 D v l.length (cm l) h.row,by rw [List.append_nil];exact h,aH.refl _ _,fun g e=> .inl e⟩
 ·have f:=List.length_pos_iff.2 m
  rcases E.row.2 with ⟨_,B⟩ | ⟨n,d,A,rfl,_,o,_,_,_,q⟩
  ·omega
  ·obtain ⟨g,F,w',J,C,c⟩:=gC (P:=Tryz.prog) w 25 25 s 9 i _ 1 _ Tryz.underlying25 D r t y rfl (by decide) v l.length (cm l) h.row ⟨n,0,none⟩ x.length d (cm x) (by simp [cm]) (fun j a e=>by
    have G:(⟨n,0,none⟩:Addr).add j=⟨n,j,none⟩:=by
     unfold Addr.add
     split
     ·rename_i B;rw [B]
     ·rw [Nat.zero_add]
    rw [G]
    have K:j < x.length * 1:=by
     obtain ⟨p,_⟩:=List.getElem?_eq_some_iff.1 e;simpa [cm] using p
    rw [Lib.cell_of_heap o,←Array.getElem?_toList,←List.getElem?_take_of_lt K,q,e]) Mq f (by unfold maxLen;omega) (by omega) L
   have b:cm l++cm x=cm (l++x):=by simp [cm]
   rw [b] at C;refine ⟨_,w',J,⟨by rw [List.length_append];exact C,fun e=>absurd (List.append_eq_nil_iff.1 e).2 m⟩,?_,fun I e=>?_⟩
   ·rcases c with ⟨b,c⟩ | ⟨_,c⟩
    ·exact (aH.grown c).mono fun k _ e=>b.trans e
    ·exact (aH.grown c).mono fun k _ e=>by cases e
   ·have e:g=I:=by simpa [Value.ownBlock] using e
    subst e
    rcases c with ⟨b,_⟩ | ⟨b,_⟩
    ·exact .inl b
    ·exact .inr (by rw [b];exact Nat.le_refl _)
end
end Go.Proofs.YtofpegbpgkkgkaaGreatDoor
