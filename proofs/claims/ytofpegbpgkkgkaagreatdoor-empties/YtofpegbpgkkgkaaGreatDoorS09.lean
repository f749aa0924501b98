import Derived.Deep.SlicePairs
import Derived.SizedLaws
import Derived.Test.YtofpegbpgkkgkaaGreatDoorS05
import Derived.Test.YtofpegbpgkkgkaaGreatDoorS08
import Derived.Test.YtofpegbpgkkgkaaGreatDoorS06
import Derived.Maps.RangeRun
import Derived.Lib.Join
namespace Go.Proofs.YtofpegbpgkkgkaaGreatDoor
set_option maxHeartbeats 8000000
set_option maxRecDepth 1000000
open Go.ChangeShapes Go.WideShapes Go.RowKit Go.Deep
section
variable {H:Type} {enc:TypeId×Value→H} {w:World} {base:Nat} {spare:Nat→Bool} {held:Bool}
theorem Ir:reachBytes=140737488351232:=by decide
theorem EG:Tryz.prog.cellsOf 3=1:=by kernel_rfl
theorem zx {P:Program} {t e:TypeId} {a c:List (DataW H)} (f:P.underlying t=some (.slice e)) (b:((DataW.slice a c).weights P t).all (·≤reachBytes)=true):a.length * P.bytesOf e≤140737488351232:=by
 simp only [DataW.weights,f,List.all_cons,Bool.and_eq_true,decide_eq_true_eq] at b;have d:=b.1;rw [Ir] at d;have g:a.length * P.bytesOf e≤(a.length+c.length) * P.bytesOf e:=Nat.mul_le_mul_right _ (by omega);omega
theorem J4 {a:Addr} {c d h:Nat} {i:List Value} (k:0 < h) (q:i.length=c * h) (f:c≤d) (n:∀j:Nat,j < c * h→w.cell? (a.add j)=i[j]?):bg w (.slice (some a) c d) c h i:=by
 refine ⟨q,?_⟩
 rcases Nat.eq_zero_or_pos c with rfl | r
 ·exact .inl ⟨rfl,_,_,rfl⟩
 ·obtain ⟨b,l,g⟩:=a;have o:0 < c * h:=Nat.mul_pos r k;have m:=n 0 o;rw [List.getElem?_eq_getElem (by omega)] at m;have e:g=none:=by simpa [Addr.add] using World.cell?_spot m
  subst e;exact .inr ⟨b,l,d,rfl,f,fun j p=>by rw [←add_plain];exact n j p⟩
theorem rD {P:Program} {b:List TypeId} {a:List (DataW H)} (h:(DataW.weightsEach P b a).all (·≤reachBytes)=true) {j:Nat} {t:TypeId} {d:DataW H} (f:b[j]? =some t) (c:a[j]? =some d):(d.weights P t).all (·≤reachBytes)=true:=
 List.all_eq_true.2 fun n e=>List.all_eq_true.1 h n (DataW.weights_mem_each f c n e)
end
open Go.RowKit
theorem oP (b:World) (B a n:Nat) (l:List UInt8) (f:l.length=n) (e:∀(j:Nat),j < n→b.cell? ⟨B,j,none⟩=some (.int .u8 ((l.getD j 0).toNat:Int))):
  (convert 114 9 (.slice (some ⟨B,0,none⟩) n a)).run Tryz.prog b= .ok (.string ⟨l.toArray⟩) b:=by
 subst f;refine run_convert_bytes_back (P:=Tryz.prog) b 114 9 5 ⟨B,0,none⟩ a l Tryz.underlying114 Tryz.underlying5 Tryz.underlying9 (fun j c=>?_)
 have d:(Addr.add ⟨B,0,none⟩ j)=⟨B,j,none⟩:=by
  unfold Addr.add;simp <;> omega
 rw [d,e j c,List.getD_eq_getElem?_getD,List.getElem?_eq_getElem c];rfl
theorem jJ (P:Program) (g o:Nat) (t:TypeId) (b:Nat×Nat):∀(d:List Value) (i:Nat) (a:Array Value) (w:World),w.heap[g]? =some (.cells a t b)→(b.2≤o+i∨o+i+d.length≤b.1)→o+i+d.length≤a.size→(∀v∈d,v.oneCell'=true)→
  (storeCells ⟨g,o,none⟩ d i).run P w= .ok () (w.setRow g (a.toList.take (o+i)++d++a.toList.drop (o+i+d.length)).toArray)
 | [],i,a,w,hg,_,_,_=>by
  simp only [storeCells,List.append_nil,List.length_nil,Nat.add_zero,List.take_append_drop,Array.toArray_toList];rw [setRow_self w g a t b hg];rfl
 | v::rest,i,a,w,hg,hfz,hl,h1=>by
  have k:o+i < a.size:=by simp at hl;omega
  have f:(⟨g,o,none⟩:Addr).add i=⟨g,o+i,none⟩:=by unfold Addr.add;split <;> simp_all
  have c:w.cell? ⟨g,o+i,none⟩=some a[o+i]:=by simp [World.cell?,hg,k]
  have h:w.frozen? ⟨g,o+i,none⟩=false:=by
   obtain ⟨p,l⟩:=b;simp only [World.frozen?,hg,Bool.and_eq_false_iff,decide_eq_false_iff_not];simp only [List.length_cons] at hfz;omega
  have j:(store ((⟨g,o,none⟩:Addr).add i) v).run P w= .ok () (w.setRow g (a.setIfInBounds (o+i) v)):=by
   rw [f,run_store P w _ v _ (h1 v (by simp)),c];simp [h,setCell_eq_setRow w g (o+i) a t b v hg]
  have n:=jJ P g o t b rest (i+1) (a.setIfInBounds (o+i) v) (w.setRow g (a.setIfInBounds (o+i) v)) (setRow_heap w g a _ t _ hg) (by simp only [List.length_cons] at hfz;omega) (by simp at hl ⊢;omega) (fun x m=>h1 x (by simp [m]));simp only [storeCells,Sem.run_bind,j,Result.andThen_ok,n,setRow_setRow]
  congr 3
  have e:=list_seg_step a.toList (o+i) v rest (by simp at hl ⊢;omega);simpa [Array.toList_setIfInBounds,Nat.add_assoc] using e
def dT (w:World) (v:Value) (l:List UInt8):Prop:=
 (v= .slice none 0 0∧l=[])∨∃g cap cur fz,v= .slice (some ⟨g,0,none⟩) l.length cap∧w.heap[g]? =some (.cells cur 5 fz)∧(fz.2≤l.length∨cap≤fz.1)∧l.length≤cap∧cap≤maxLen∧cur.size=cap∧cur.toList.take l.length=Lib.byteCells l
theorem gR (l:List UInt8):(Lib.byteCells l).length=l.length:=by simp [Lib.byteCells]
theorem dT.nil (w:World):dT w (.slice none 0 0) []:= .inl ⟨rfl,rfl⟩
theorem dT.ofF {w:World} {base:Nat} {v:Value} {l:List UInt8} (h:w.ownsRowF base 5 1 v l.length (Lib.byteCells l)):dT w v l:=by
 rcases h.2 with ⟨c,f⟩ | ⟨g,a,b,e,c,_,i,m,j,k,n,d⟩
 ·exact .inl ⟨c,List.length_eq_zero_iff.1 f⟩
 ·exact .inr ⟨g,a,b,e,c,i,.inl (by omega),j,k,by omega,by rw [Nat.mul_one] at d;exact d⟩
theorem dT.len {w:World} {v:Value} {l:List UInt8} (h:dT w v l):∃a c,v= .slice a l.length c:=by
 rcases h with ⟨b,f⟩ | ⟨g,d,e,i,b,_⟩
 ·exact ⟨none,0,by rw [b,f];rfl⟩
 ·exact ⟨_,_,b⟩
theorem dT.tag {w:World} {v:Value} {l:List UInt8} (h:dT w v l) {g:Nat} (a:v.ownBlock=some g):∃b z,w.heap[g]? =some (.cells b 5 z):=by
 rcases h with ⟨c,_⟩ | ⟨i,d,b,f,c,e,_⟩
 ·rw [c] at a;cases a
 ·rw [c] at a;injection a with a;subst a;exact ⟨_,_,e⟩
theorem dT.lt {w:World} {v:Value} {l:List UInt8} (h:dT w v l) {g:Nat} (c:v.ownBlock=some g):g < w.heap.size:=by
 obtain ⟨a,z,b⟩:=h.tag c;exact ah b
theorem dT.chg {A:Nat→Prop} {w d:World} {v:Value} {l:List UInt8} (h:dT w v l) (i:aH A w d) (j:∀g,v.ownBlock=some g→¬A g):dT d v l:=by
 rcases h with h | ⟨g,a,b,e,c,f,r⟩
 ·exact .inl h
 ·exact .inr ⟨g,a,b,e,c,i.some_ f (j g (by rw [c];rfl)),r⟩
theorem dT.below {w a:World} {v:Value} {l:List UInt8} (h:dT w v l) (b:Below w.heap.size w a):dT a v l:=h.chg (aH.below b:aH (fun _=>False) w a) (fun _ _ e=>e)
theorem dT.cell {w:World} {v:Value} {l:List UInt8} (h:dT w v l) {g:Nat} (b:v.ownBlock=some g) (j:Nat) (a:j < l.length):w.cell? ⟨g,j,none⟩=some (.int .u8 ((l.getD j 0).toNat:Int)):=by
 rcases h with ⟨_,c⟩ | ⟨m,d,e,k,c,f,_,_,_,_,i⟩
 ·rw [c] at a;simp at a
 ·rw [c] at b;injection b with b;subst b;rw [Lib.cell_of_heap f,←Array.getElem?_toList,←List.getElem?_take_of_lt a,i,Lib.byteCells,List.getElem?_map,List.getElem?_eq_getElem a,List.getD_eq_getElem?_getD,List.getElem?_eq_getElem a];rfl
theorem dT.cells {w:World} {l:List UInt8} {g n c:Nat} (h:dT w (.slice (some ⟨g,0,none⟩) n c) l):∀j u,(Lib.byteCells l)[j]? =some u→w.cell? ((⟨g,0,none⟩:Addr).add j)=some u:=by
 intro j u d;have a:(⟨g,0,none⟩:Addr).add j=⟨g,j,none⟩:=by unfold Addr.add;split <;> simp_all
 have b:j < l.length:=by have:=(List.getElem?_eq_some_iff.1 d).1;rwa [gR] at this
 rw [a,h.cell rfl j b,←d,Lib.byteCells,List.getElem?_map,List.getElem?_eq_getElem b,List.getD_eq_getElem?_getD,List.getElem?_eq_getElem b];rfl
theorem dT.string {w:World} {v:Value} {l:List UInt8} (h:dT w v l):(convert 114 9 v).run Tryz.prog w= .ok (.string (bs l)) w:=by
 rcases h with ⟨rfl,rfl⟩ | ⟨g,cap,a,b,rfl,c,r⟩
 ·rw [run_convert_bytes_string w 114 9 5 none 0 0 Tryz.underlying114 Tryz.underlying5 Tryz.underlying9];simp [Conv.bytesToString,Sem.run_pure];rfl
 ·exact oP w g cap l.length l rfl (fun j d=>dT.cell (.inr ⟨g,cap,a,b,rfl,c,r⟩) rfl j d)
theorem dT.conv (w:World) (l:List UInt8) (d:l.length≤maxLen):dT (Lib.bytesWorld w 5 (bs l)) (.slice (some ⟨w.heap.size,0,none⟩) (bs l).size (grownCap w (bs l).size 0 5)) l:=by
 have a:=aG l;have b:=grownCap_ge w l.length 0 5;have c:=grownCap_le_maxLen w l.length 0 5 d;refine .inr ⟨w.heap.size,grownCap w l.length 0 5,_,_,by rw [a],Lib.bytesWorld_at_new w 5 (bs l),.inr ?_,b,c,?_,?_⟩
 ·simp only [Lib.bytesCells,a,Array.size_append,Array.size_map,Array.size_replicate];have:(bs l).data.size=l.length:=a;omega
 ·simp only [Lib.bytesCells,a,Array.size_append,Array.size_map,Array.size_replicate];have:(bs l).data.size=l.length:=a;omega
 ·simp only [Lib.bytesCells,Array.toList_append,Array.toList_map];rw [List.take_left' (by simp [bs])];simp [Lib.byteCells,bs]
theorem qA {α:Type} (a b c:List α) {n:Nat} (h:n=a.length+b.length):(a++b++c).take n=a++b:=by
 rw [h,←List.length_append];exact List.take_left
theorem dT.text {w:World} {v:Value} {l:List UInt8} (h:dT w v l) (s:List UInt8) (L:l.length+s.length≤140737488355328):
  ∃a n c B,(Builtin.append_ #[114,9] 114 #[v,.string (bs s)]).run Tryz.prog w= .ok (.slice a n c) B∧dT B (.slice a n c) (l++s)∧aH (fun k=>v.ownBlock=some k) w B∧∀k,(Value.slice a n c).ownBlock=some k→v.ownBlock=some k∨w.heap.size≤k:=by
 obtain ⟨i,H,z,p,A⟩:=info_parts lx;have x:=aG s
 rcases h with ⟨rfl,rfl⟩ | ⟨g,b,f,C,rfl,q,F,Q,J,R,K⟩
 ·obtain ⟨U,B,O,E,q,F⟩:=jW (P:=Tryz.prog) w 0 114 9 114 5 i Tryz.underlying114 Tryz.underlying9 H z p A (.slice none 0 0) 0 [] (World.ownsRowF_nil w 0 5 1) (bs s) (by unfold maxLen;simp at L;omega) (by simp at L;omega) (Nat.zero_le _)
  obtain ⟨a,n,c,rfl⟩:∃a m c,U= .slice a m c:=by
   rcases E.2 with ⟨e,_⟩ | ⟨g,b,f,C,e,_⟩
   ·exact ⟨_,_,_,e⟩
   ·exact ⟨_,_,_,e⟩
  refine ⟨a,n,c,B,O,dT.ofF (base:=0) ?_,aH.grown q,F⟩;have N:[]++Lib.strCells (bs s)=Lib.byteCells s:=by simp [Lib.byteCells,Lib.strCells,bs]
  rw [N,Nat.zero_add,x] at E;exact E
 ·have S:dT w (.slice (some ⟨g,0,none⟩) l.length b) l:= .inr ⟨g,b,f,C,rfl,q,F,Q,J,R,K⟩;have d:Lib.strCells (bs s)=Lib.byteCells s:=by simp [Lib.byteCells,Lib.strCells,bs]
  have t:=gR s;have u:=gR l;have r:Lib.byteCells (l++s)=Lib.byteCells l++Lib.byteCells s:=by simp [Lib.byteCells]
  by_cases j:l.length+s.length≤b
  ·have M:=Lib.run_firstCells_string (P:=Tryz.prog) w 1 (bs s);have y:=jJ Tryz.prog g l.length 5 C (Lib.strCells (bs s)) 0 f w q (by rw [d];omega) (by rw [d];omega) (Lib.strCells_oneCell (bs s));simp only [Nat.add_zero,Lib.strCells_length,x] at y;rw [x] at M
   have D:(Builtin.append_ #[114,9] 114 #[.slice (some ⟨g,0,none⟩) l.length b,.string (bs s)]).run Tryz.prog w= .ok (.slice (some ⟨g,0,none⟩) (l.length+s.length) b) (w.setRow g (f.toList.take l.length++Lib.strCells (bs s)++f.toList.drop (l.length+s.length)).toArray):=by
    simp [Builtin.append_,run_underlying Tryz.underlying114,run_underlying Tryz.underlying9,sizeOf,typeInfo,H,p,Builtin.lenOf,x,j,M,Addr.add_lit,y]
   refine ⟨_,_,_,_,D,.inr ⟨g,b,_,C,by rw [List.length_append],setRow_heap w g f _ 5 _ q,by rw [List.length_append];omega,by rw [List.length_append];exact j,J,?_,?_⟩,⟨by simp [World.setRow],fun k _ o=>setRow_other w g k _ (fun e=>o (by rw [e];rfl)),⟨rfl,rfl,rfl⟩⟩,fun k o=> .inl o⟩
   ·simp only [List.size_toArray,List.length_append,List.length_take,List.length_drop,Array.length_toList,d,t];omega
   ·rw [K,d,r,List.length_append];exact qA _ _ _ (by omega)
  ·have D:=Lib.run_append_grow_string (P:=Tryz.prog) w 114 9 114 5 i (.int .u8 0) Tryz.underlying114 Tryz.underlying9 H z ⟨g,0,none⟩ l.length b (Lib.byteCells l) (by rw [p];omega) S.cells (bs s) (by omega) (by omega) (by rw [A];exact growslice_fits (by omega) (by omega));rw [x] at D;have G:=grownCap_ge w (l.length+s.length) b 5;have I:=grownCap_le_maxLen w (l.length+s.length) b 5 (by unfold maxLen;omega);refine ⟨_,_,_,_,D,.inr ⟨w.heap.size,_,_,(0,0),by rw [List.length_append],heap_alloc_new w.drew _,.inl (Nat.zero_le _),by rw [List.length_append];exact G,I,?_,?_⟩,aH.below ((Below.refl w.heap.size w).drew.alloc (Nat.le_refl _) _),fun k o=> .inr (by injection o with o;exact Nat.le_of_eq o)⟩
   ·have T:(Value.int IntKind.u8 0).cells.size=1:=rfl;simp only [Array.size_append,List.size_toArray,size_zeroCells,T,d,t,u];omega
   ·simp only [Array.toList_append,d,r,List.length_append];exact qA _ _ _ (by omega)
theorem dT.one {w W:World} {v:Value} {l:List UInt8} (h:dT w v l) (x:UInt8) (r:Below w.heap.size w W) (T:W.heap[w.heap.size]? =some (.cells #[.int .u8 (x.toNat:Int)] 5 (0,0))) (X:l.length+1≤140737488355328):
  ∃a n c D,(Builtin.append_ #[114,114] 114 #[v,.slice (some ⟨w.heap.size,0,none⟩) 1 1]).run Tryz.prog W= .ok (.slice a n c) D∧dT D (.slice a n c) (l++[x])∧aH (fun k=>v.ownBlock=some k) w D∧∀k,(Value.slice a n c).ownBlock=some k→v.ownBlock=some k∨w.heap.size≤k:=by
 obtain ⟨i,H,B,p,C⟩:=info_parts lx;have d:∀j u,[Value.int .u8 (x.toNat:Int)][j]? =some u→W.cell? ((⟨w.heap.size,0,none⟩:Addr).add j)=some u:=World.news_of_block (cs:=#[.int .u8 (x.toNat:Int)]) (t:=5) (fr:=(0,0)) T;have F:=h.below r;have s:Lib.byteCells (l++[x])=Lib.byteCells l++[.int .u8 (x.toNat:Int)]:=by simp [Lib.byteCells]
 have y:=gR l
 rcases F with ⟨rfl,rfl⟩ | ⟨g,b,m,E,rfl,q,O,Q,K,R,L⟩
 ·obtain ⟨g,b,D,M,N,q⟩:=gC (P:=Tryz.prog) W 114 114 0 5 i (.int .u8 0) 1 1 Tryz.underlying114 H B p C rfl (by decide) (.slice none 0 0) 0 [] ⟨rfl,.inl ⟨rfl,rfl⟩⟩ ⟨w.heap.size,0,none⟩ 1 1 [.int .u8 (x.toNat:Int)] rfl d (by intro u A;simp at A;rw [A];rfl) (by decide) (by unfold maxLen;decide) (by decide) (Nat.zero_le _)
  rcases q with ⟨e,_⟩ | ⟨e,q⟩
  ·cases e
  ·refine ⟨_,_,_,D,M,dT.ofF (base:=0) (World.ownsRowF_of N),(aH.below r:aH _ w W).trans (aH.grown q) (fun k _ e=>by cases e),fun k f=> .inr ?_⟩;injection f with f;have f:g=k:=f;have:=r.size;omega
 ·have S:dT W (.slice (some ⟨g,0,none⟩) l.length b) l:= .inr ⟨g,b,m,E,rfl,q,O,Q,K,R,L⟩
  by_cases o:l.length+1≤b
  ·have U:=run_firstCells_some (P:=Tryz.prog) W 1 1 ⟨w.heap.size,0,none⟩ 1 1 [.int .u8 (x.toNat:Int)] rfl d;have z:=jJ Tryz.prog g l.length 5 E [.int .u8 (x.toNat:Int)] 0 m W q (by simp only [List.length_cons,List.length_nil];omega) (by simp only [List.length_cons,List.length_nil];omega) (by intro u A;simp at A;rw [A];rfl);simp only [Nat.add_zero,List.length_cons,List.length_nil,Nat.zero_add] at z
   have J:(Builtin.append_ #[114,114] 114 #[.slice (some ⟨g,0,none⟩) l.length b,.slice (some ⟨w.heap.size,0,none⟩) 1 1]).run Tryz.prog W= .ok (.slice (some ⟨g,0,none⟩) (l.length+1) b) (W.setRow g (m.toList.take l.length++[Value.int .u8 (x.toNat:Int)]++m.toList.drop (l.length+1)).toArray):=by
    simp [Builtin.append_,run_underlying Tryz.underlying114,sizeOf,typeInfo,H,p,Builtin.lenOf,o,U,Addr.add_lit,z]
   refine ⟨_,_,_,_,J,.inr ⟨g,b,_,E,by rw [List.length_append];rfl,setRow_heap W g m _ 5 _ q,by rw [List.length_append];simp only [List.length_cons,List.length_nil];omega,by rw [List.length_append];exact o,K,?_,?_⟩,(aH.below r:aH _ w W).trans (A1:=fun k=>k=g) ⟨by simp [World.setRow],fun k _ f=>setRow_other W g k _ f,⟨rfl,rfl,rfl⟩⟩ (fun k _ e=>by rw [e];rfl),fun k f=> .inl f⟩
   ·simp only [List.size_toArray,List.length_append,List.length_take,List.length_drop,Array.length_toList,List.length_cons,List.length_nil];omega
   ·rw [L,s,List.length_append];exact qA _ _ _ (by simp only [List.length_cons,List.length_nil];omega)
  ·have J:=run_append_grow (P:=Tryz.prog) W 114 114 5 i (.int .u8 0) Tryz.underlying114 H B ⟨g,0,none⟩ l.length b (Lib.byteCells l) (by rw [p];omega) S.cells ⟨w.heap.size,0,none⟩ 1 1 [.int .u8 (x.toNat:Int)] (by rw [p];rfl) d (by omega) (by omega) (by rw [C];exact growslice_fits (by omega) (by omega));have G:=grownCap_ge W (l.length+1) b 5;have I:=grownCap_le_maxLen W (l.length+1) b 5 (by unfold maxLen;omega);refine ⟨_,_,_,_,J,.inr ⟨W.heap.size,_,_,(0,0),by rw [List.length_append];rfl,heap_alloc_new W.drew _,.inl (Nat.zero_le _),by rw [List.length_append];exact G,I,?_,?_⟩,(aH.below r:aH _ w W).trans (aH.below ((Below.refl W.heap.size W).drew.alloc (Nat.le_refl _) _):aH (fun _=>False) _ _) (fun _ _ e=>e.elim),fun k f=> .inr (by injection f with f;have f:W.heap.size=k:=f;have:=r.size;omega)⟩
   ·have V:(Value.int IntKind.u8 0).cells.size=1:=rfl;simp only [Array.size_append,List.size_toArray,size_zeroCells,V,y,List.length_cons,List.length_nil];omega
   ·simp only [Array.toList_append,s,List.length_append];exact qA _ _ _ (by simp only [List.length_cons,List.length_nil];omega)
theorem lH:∀(k n:Nat),az (k+1) n=UInt8.ofNat (n / 256 ^ k)::az k n
 | 0,n=>by simp [az]
 | k+1,n=>by
  rw [az,lH k (n / 256),Nat.div_div_eq_div_mul,←Nat.pow_succ',az];rfl
theorem tM:∀(a n k:Nat) (h:k < a),(az a n)[k]'(by rw [bf];exact h)=UInt8.ofNat (n / 256 ^ (a - 1 - k))
 | 0,n,k,h=>by omega
 | a+1,n,0,h=>by simp [lH]
 | a+1,n,k+1,h=>by
  simp only [lH,List.getElem_cons_succ];rw [tM a n k (by omega)]
  congr 3
  omega
theorem dF (v:Value) (l:List UInt8) (n a:Nat) (w:World) (h:dT w v l) (X:l.length≤1073741824) (_:n≤4294967295) (Y:1≤a∧a≤4):
  Calls Tryz.prog 174 #[v,.int .i64 n,.int .i64 a] w fun e q=>∃D,e= .returned D∧dT q D (l++az a n)∧aH (fun k=>v.ownBlock=some k) w q∧∀k,D.ownBlock=some k→v.ownBlock=some k∨w.heap.size≤k:=by
 have M:=Lib.hid h;clear h;go_enter Tryz.func174,Tryz.ntmps174;go_wp2_with fail
 go_loopw [0,7] (fun b C q=>∃k:Nat,k≤a∧C= .int .i64 (8 * ((a:Int) - k) - 8)∧Hid (dT q b (l++(az a n).take k))∧Hid (aH (fun j=>v.ownBlock=some j) w q)∧Hid (∀j,b.ownBlock=some j→v.ownBlock=some j∨w.heap.size≤j)) (fun _ C _=>((intOf C)+8).toNat)
 case atStart=>
  refine ⟨0,Nat.zero_le _,congrArg (Value.int .i64) (by omega),Lib.hid ?_,Lib.hid (aH.refl _ _),Lib.hid (fun _ e=> .inl e)⟩;rw [List.take_zero,List.append_nil];exact M.out
 case round=>
  obtain ⟨k,V,rfl,m,r,t⟩:=hrel
  by_cases o:k < a
  ·obtain ⟨f,p⟩:∃f:Nat,8 * (a - k) - 8=f:=⟨_,rfl⟩;have O:(8 * ((a:Int) - k) - 8)=(f:Int):=by omega
   rw [O];have K:f≤24:=by omega
   have B:((UInt8.ofNat (n / 2 ^ f)).toNat:Int)=(n:Int) / 2 ^ f % 256:=by
    rw [UInt8.toNat_ofNat'];rfl
   have d:(az a n).take (k+1)=(az a n).take k++[UInt8.ofNat (n / 2 ^ f)]:=by
    rw [List.take_succ_eq_append_getElem (by rw [bf];exact o)]
    congr 2
    rw [tM a n k o,←p]
    congr 2
    rw [show (256:Nat)=2 ^ 8 from rfl,←Nat.pow_mul]
    congr 1
    omega
   obtain ⟨g,c⟩:∃g,l++(az a n).take k=g:=⟨_,rfl⟩;have Q:g.length≤1073741828:=by rw [←c,List.length_append,List.length_take];omega
   have N:Hid (l++(az a n).take (k+1)=g++[UInt8.ofNat (n / 2 ^ f)]):=Lib.hid (by rw [d,←List.append_assoc,c]);rw [c] at m;obtain ⟨T,U,P⟩:=m.out.len;subst P;have z:=heap_alloc_new wr (.cells #[.int .u8 ((n:Int) / 2 ^ f % 256)] 5);rw [←B] at z;obtain ⟨H,L,I,S,i,G,E,F⟩:=m.out.one (UInt8.ofNat (n / 2 ^ f)) (W:=wr.alloc (.cells #[.int .u8 ((UInt8.ofNat (n / 2 ^ f)).toNat:Int)] 5)) ((Below.refl _ _).alloc (Nat.le_refl _) _) z (by omega);rw [B] at i;have x:=Lib.hid i;have y:=Lib.hid G;have s:=Lib.hid (r.out.trans E (fun j R e=>(t.out j e).elim id (fun e=>absurd R (by omega))));have u:Hid (∀j,(Value.slice H L I).ownBlock=some j→v.ownBlock=some j∨w.heap.size≤j):=Lib.hid (fun j e=>(F j e).elim (t.out j) (fun e=> .inr (Nat.le_trans r.out.size e)));clear B d c p z i G E F
   go_wp2_with (first
    | (at_builtin;refine bB rfl _ _ 114 rfl _ _ (.slice H L I) S rfl rfl x.out ?_)
    | fail)
   exact ⟨⟨k+1,by omega,congrArg (Value.int .i64) (by omega),by rw [N.out];exact y,s,u⟩,by simp [intOf];omega⟩
  ·have A:k=a:=by omega
   subst A;have J:¬(0:Int)≤8 * ((k:Int) - k) - 8:=by omega
   rw [List.take_of_length_le (by rw [bf];exact Nat.le_refl _)] at m;go_wp2_with fail
   go_ret;exact ⟨_,rfl,m.out,r.out,t.out⟩
theorem kX (v:Value) (l t:List UInt8) (a:Nat) (w:World) (h:dT w v l) (M:l.length≤536870912) (N:t.length≤1048576) (H:1≤a∧a≤4):
  Calls Tryz.prog 263 #[v,.string (bs t),.int .i64 a] w fun e C=>∃r,e= .returned r∧dT C r (l++(az a t.length++t))∧aH (fun k=>v.ownBlock=some k) w C∧∀k,r.ownBlock=some k→v.ownBlock=some k∨w.heap.size≤k:=by
 have I:=aG t;have D:=Lib.hid (dF v l t.length a w h (by omega) (by omega) H);obtain ⟨E,F,rfl⟩:=h.len;clear h;go_enter Tryz.func263,Tryz.ntmps263;go_wp2_with fail
 refine D.out.mono ?_;rintro e P ⟨O,rfl,f,o,p⟩;have q:(l++az a t.length).length≤536870916:=by rw [List.length_append,bf];omega
 have s:Hid (l++(az a t.length++t)=(l++az a t.length)++t):=Lib.hid (List.append_assoc ..).symm;obtain ⟨b,c⟩:∃b,l++az a t.length=b:=⟨_,rfl⟩;rw [c] at f q s;obtain ⟨z,B,A,J,d,y,u,x⟩:=f.text t (by omega);obtain ⟨K,L,rfl⟩:=f.len;have m:=Lib.hid d;have n:=Lib.hid y;have g:=Lib.hid (o.trans u (fun j G e=>(p j e).elim id (fun e=>absurd G (by omega))));have i:Hid (∀j,(Value.slice z B A).ownBlock=some j→(Value.slice E l.length F).ownBlock=some j∨w.heap.size≤j):=Lib.hid (fun j e=>(x j e).elim (p j) (fun e=> .inr (Nat.le_trans o.size e)));clear f o p d y u x
 go_wp2_with (first
  | (at_builtin;refine iX rfl _ _ 114 9 rfl _ (.slice z B A) (bs t) J rfl rfl m.out ?_)
  | fail)
 go_ret;exact ⟨_,rfl,by rw [s.out];exact n.out,g.out,i.out⟩
theorem rQ (t:List UInt8) (w:World) (c:t.length≤1073741824):
  Calls Tryz.prog 234 #[.string (bs t)] w fun e b=>e= .returned (.int .i64 ((8+t.length:Nat):Int))∧w=b:=by
 have a:=aG t;go_enter Tryz.func234,Tryz.ntmps234;go_wp2_with fail
 go_ret;exact ⟨by congr 1,rfl⟩
theorem JT (l:List UInt8):sV l≤4294967295:=by unfold sV;omega
theorem F9 (t:List UInt8) (w:World) (Q:t.length≤1048576):
  Calls Tryz.prog 173 #[.string (bs t)] w fun e B=>e= .returned (.string (bs (bJ t)))∧Below w.heap.size w B:=by
 have K:=aG t;have F:=Lib.hid (dF (.slice none 0 0) [] t.length 4 w (dT.nil w) (by simp) (by omega) (by omega));have v:Hid (∀W:World,Calls Tryz.prog 113 #[.string (bs t)] W fun e B=>e= .returned (.int .u32 (sV t))∧W=B):=Lib.hid (fun W=>vA (bs t) W (by unfold maxLen;omega));have q:=JT t;obtain ⟨j,g⟩:∃j,sV t=j:=⟨_,rfl⟩;rw [g] at v q;have x:Hid (bJ t=(az 4 t.length++az 4 j)++t):=Lib.hid (by unfold bJ;rw [g,List.append_assoc]);clear g;go_enter Tryz.func173,Tryz.ntmps173;go_wp2_with fail
 refine F.out.mono ?_;rintro e C ⟨R,rfl,n,h,G⟩;have o:([]++az 4 t.length).length≤4:=by rw [List.nil_append,bf];exact Nat.le_refl _
 rw [List.nil_append] at n o;obtain ⟨b,d⟩:∃b,az 4 t.length=b:=⟨_,rfl⟩;rw [d] at n o x;obtain ⟨M,O,rfl⟩:=n.len;have z:=Lib.hid n;have D:Below w.heap.size w C:=⟨h.still.1,h.still.2.1,h.still.2.2,h.size,fun k A=>h.block k A (fun e=>by cases e)⟩;have m:=Lib.hid D;have y:=Lib.hid G;clear n h G D;go_wp2_with fail
 refine (v.out C).mono ?_;rintro e T ⟨rfl,rfl⟩;have l:=Lib.hid (dF _ b j 4 C z.out (by omega) q (by omega));clear d F v;go_wp2_with fail
 refine l.out.mono ?_;rintro e L ⟨S,rfl,r,i,I⟩;have p:(b++az 4 j).length≤8:=by rw [List.length_append,bf];omega
 obtain ⟨a,c⟩:∃a,b++az 4 j=a:=⟨_,rfl⟩;rw [c] at r p x;have H:=aG a;have J:=r.string;obtain ⟨N,P,rfl⟩:=r.len;have f:bs a++bs t=bs (a++t):=(cE a t).symm;have s:=Lib.hid f
 have E:Below w.heap.size w L:=by
  refine m.out.trans ⟨i.still.1,i.still.2.1,i.still.2.2,i.size,fun k A=>i.block k (Nat.lt_of_lt_of_le A m.out.size) (fun e=>?_)⟩
  rcases y.out k e with e | e
  ·cases e
  ·omega
 have u:=Lib.hid E;clear r i I c E f l;go_wp2_with fail
 go_ret;exact ⟨by rw [x.out,←s.out];rfl,u.out⟩
theorem yF {A:Nat→Prop} {B:Nat} {a b:World} (h:aH A a b) (c:∀k,A k→B≤k) (d:B≤a.heap.size):Below B a b:=
 ⟨h.still.1,h.still.2.1,h.still.2.2,h.size,fun k f=>h.block k (by omega) (fun e=>by have:=c k e;omega)⟩
structure WR (B:Nat) (w w':World) (v:Value) (acc:List UInt8):Prop where
 row:dT w' v acc
 own:∀k,v.ownBlock=some k→B≤k
 below:Below B w w'
theorem WR.le {B:Nat} {w b:World} {v:Value} {a:List UInt8} (h:WR B w b v a) (c:B≤w.heap.size):B≤b.heap.size:=Nat.le_trans c h.below.size
theorem WR.step {B:Nat} {w w' b:World} {v d:Value} {c a:List UInt8} (h:WR B w w' v c) (f:B≤w.heap.size) (j:dT b d a) (g:aH (fun k=>v.ownBlock=some k) w' b) (i:∀k,d.ownBlock=some k→v.ownBlock=some k∨w'.heap.size≤k):WR B w b d a:=
 ⟨j,fun k e=>(i k e).elim (h.own k) (fun e=>Nat.le_trans (h.le f) e),h.below.trans (yF g h.own (h.le f))⟩
theorem vV (l:List (List UInt8)) (h:∀t∈l,t.length≤255):(eE l).length≤256 * l.length:=by
 induction l with
 | nil=>simp [eE]
 | cons t l ih=>
  have b:=ih (fun x a=>h x (List.mem_cons_of_mem _ a));have c:=h t (List.mem_cons_self ..);have e:eE (t::l)=jC t++eE l:=by simp [eE]
  rw [e,List.length_append,jC,List.length_append,bf,List.length_cons];omega
theorem oH (n d:Nat) (f:List UInt8) (a:List (List UInt8)) (c:List UInt8) (v:Value) (w:World) (h:bg w v a.length 1 (aB a)) (hz:dQ ⟨n,d,f,a,c⟩):
  Calls Tryz.prog 233 #[.agg #[.int .i64 n,.int .i64 d,.string (bs f),v,.string (bs c)]] w fun e w'=>e= .returned (.string (bs (cA ⟨n,d,f,a,c⟩)))∧Below w.heap.size w w':=by
 obtain ⟨z1,z2,z3,z4,z5,z6⟩:=hz;simp only at z1 z2 z3 z4 z5 z6;obtain ⟨L,M,rfl,p⟩:=h.one;have HV:=Lib.hid p;have Q:=Lib.hid z5;obtain ⟨m,q⟩:∃m:World,w.alloc (.cells #[.int .i64 n,.int .i64 d,.string (bs f),.slice L a.length M,.string (bs c)] 45)=m:=⟨_,rfl⟩;have B0:Below w.heap.size w m:=by rw [←q];exact (Below.refl _ _).alloc (Nat.le_refl _) _
 have X0:m.heap[w.heap.size]? =some (.cells #[.int .i64 n,.int .i64 d,.string (bs f),.slice L a.length M,.string (bs c)] 45 (0,0)):=by rw [←q];exact heap_alloc_new w _
 have b7:m.heap.size=w.heap.size+1:=by rw [←q];simp
 have a8:=Lib.run_convert_bytes_const (P:=Tryz.prog) m 114 5 #[.int .u8 77] 1 1 Tryz.underlying114 Tryz.underlying5;have B1:Below m.heap.size m (m.alloc (.cells #[.int .u8 77] 5 (1,2))):=(Below.refl _ _).alloc (Nat.le_refl _) _;have R1:dT (m.alloc (.cells #[.int .u8 77] 5 (1,2))) (.slice (some ⟨m.heap.size,0,none⟩) 1 1) [77]:= .inr ⟨m.heap.size,1,#[.int .u8 77],(1,2),rfl,heap_alloc_new m _,.inr (Nat.le_refl _),Nat.le_refl _,by unfold maxLen;decide,rfl,rfl⟩
 obtain ⟨U,J⟩:∃U:World,m.alloc (.cells #[.int .u8 77] 5 (1,2))=U:=⟨_,rfl⟩;rw [show (#[Value.int .u8 77]:Array Value).size=1 from rfl,J] at a8;rw [J] at R1 B1;rw [b7] at a8 R1;have S1:WR (w.heap.size+1) m U (.slice (some ⟨w.heap.size+1,0,none⟩) 1 1) [77]:=⟨R1,fun k e=>by injection e with e;have e:w.heap.size+1=k:=e;omega,B1.mono (by omega)⟩
 have hf:=aG f;have d3:=aG c;have d2:=Lib.hid X0;have N:=Lib.hid B0;have d1:=Lib.hid q;have y:=Lib.hid S1;have u:∀{W:World},Below (w.heap.size+1) m W→W.heap[w.heap.size]? =some (.cells #[.int .i64 n,.int .i64 d,.string (bs f),.slice L a.length M,.string (bs c)] 45 (0,0)):=fun hb=>(hb.block _ (by omega)).trans X0;have K:Hid (∀W:World,Below (w.heap.size+1) m W→W.heap[w.heap.size]? =some (.cells #[.int .i64 n,.int .i64 d,.string (bs f),.slice L a.length M,.string (bs c)] 45 (0,0))):=Lib.hid (fun W hb=>u hb);have i0:U.cell? ⟨w.heap.size,0,none⟩=some (.int .i64 n):=by rw [Lib.cell_of_heap (K.out _ S1.below)];rfl
 clear h p z5 X0 B0 R1 B1 S1 u J;go_enter Tryz.func233,Tryz.ntmps233;go_wp2_with fail
 refine (dF _ [77] n 4 U y.out.row (by simp) z1 (by omega)).mono ?_;rintro e w2 ⟨v2,rfl,R2,K2,O2⟩;have Y:([77]++az 4 n).length≤5:=by rw [List.length_append];simp only [bf,List.length_cons,List.length_nil];omega
 obtain ⟨A2,E⟩:∃A,[77]++az 4 n=A:=⟨_,rfl⟩;rw [E] at R2 Y;have S2:=y.out.step (by omega) R2 K2 O2;obtain ⟨a2,c2,rfl⟩:=R2.len;have z:=Lib.hid S2;have b0:=Lib.hid E;have i2:w2.cell? ⟨w.heap.size,1,none⟩=some (.int .i64 d):=by rw [Lib.cell_of_heap (K.out _ S2.below)];rfl
 clear R2 K2 O2 S2 E y;go_wp2_with fail
 refine (dF _ A2 d 4 w2 z.out.row (by omega) z2 (by omega)).mono ?_;rintro e w3 ⟨v3,rfl,R3,K3,O3⟩;have Z:(A2++az 4 d).length≤9:=by rw [List.length_append];simp only [bf];omega
 obtain ⟨A3,F⟩:∃A,A2++az 4 d=A:=⟨_,rfl⟩;rw [F] at R3 Z;have S3:=z.out.step (by omega) R3 K3 O3;obtain ⟨a3,c3,rfl⟩:=R3.len;have B:=Lib.hid S3;have b1:=Lib.hid F;have i3:w3.cell? ⟨w.heap.size,2,none⟩=some (.string (bs f)):=by rw [Lib.cell_of_heap (K.out _ S3.below)];rfl
 clear R3 K3 O3 S3 F z;go_wp2_with fail
 refine (kX _ A3 f 1 w3 B.out.row (by omega) (by omega) (by omega)).mono ?_;rintro e w4 ⟨v4,rfl,R4,K4,O4⟩;have a0:(A3++(az 1 f.length++f)).length≤300:=by rw [List.length_append];simp only [List.length_append,bf];omega
 obtain ⟨A4,G⟩:∃A,A3++(az 1 f.length++f)=A:=⟨_,rfl⟩;rw [G] at R4 a0;have S4:=B.out.step (by omega) R4 K4 O4;obtain ⟨a4,c4,rfl⟩:=R4.len;have C:=Lib.hid S4;have b2:=Lib.hid G;have i4:w4.cell? ⟨w.heap.size,3,none⟩=some (.slice L a.length M):=by rw [Lib.cell_of_heap (K.out _ S4.below)];rfl
 clear R4 K4 O4 S4 G B;go_wp2_with fail
 refine (dF _ A4 a.length 1 w4 C.out.row (by omega) (by omega) (by omega)).mono ?_;rintro e w5 ⟨v5,rfl,R5,K5,O5⟩;have a1:(A4++az 1 a.length).length≤301:=by rw [List.length_append];simp only [bf];omega
 obtain ⟨A5,H⟩:∃A,A4++az 1 a.length=A:=⟨_,rfl⟩;rw [H] at R5 a1;have S5:=C.out.step (by omega) R5 K5 O5;obtain ⟨a5,c5,rfl⟩:=R5.len;have b4:=Lib.hid S5;have b3:=Lib.hid H;have i5:w5.cell? ⟨w.heap.size,3,none⟩=some (.slice L a.length M):=by rw [Lib.cell_of_heap (K.out _ S5.below)];rfl
 clear R5 K5 O5 S5 H C;go_wp2_with fail
 go_loopw [3,28] (fun b i w'=>∃k:Nat,k≤a.length∧i= .int .i64 k∧Hid (WR (w.heap.size+1) m w' b (A5++eE (a.take k)))) (fun _ i _=>a.length - (intOf i).toNat)
 case atStart=>
  refine ⟨0,Nat.zero_le _,rfl,Lib.hid ?_⟩;rw [List.take_zero,show eE []=[] from rfl,List.append_nil];exact b4.out
 case round=>
  obtain ⟨k,hk,rfl,o⟩:=hrel
  have b8:(eE (a.take k)).length≤256 * k:=by
   have:=vV (a.take k) (fun t ht=>Q.out t (List.mem_of_mem_take ht));rw [List.length_take] at this;omega
  by_cases r:k < a.length
  ·have c9:(k:Int) < (a.length:Int):=by omega
   obtain ⟨g,c8,rfl,b5,c0⟩:=HV.out k r;rw [eh a k r] at c0;have d0:wr.cell? ⟨g,c8+k,none⟩=some (.string (bs a[k])):=((N.out.trans (o.out.below.mono (by omega))).cell (by exact b5)).trans c0;have HT:Hid (eE (a.take (k+1))=eE (a.take k)++jC a[k]):=Lib.hid (BT a k r);have c1:=Q.out a[k] (List.getElem_mem r);obtain ⟨t,et⟩:∃t,a[k]=t:=⟨_,rfl⟩;rw [et] at d0 HT c1;obtain ⟨l,j⟩:∃l,A5++eE (a.take k)=l:=⟨_,rfl⟩;have X:l.length≤301+256 * k:=by rw [←j,List.length_append];omega
   have HN:Hid (A5++eE (a.take (k+1))=l++(az 1 t.length++t)):=Lib.hid (by rw [HT.out,←List.append_assoc,j];rfl);rw [j] at o;obtain ⟨a6,c6,I⟩:=o.out.row.len;subst I;have x:=Lib.hid (kX _ l t 1 wr o.out.row (by omega) (by omega) (by omega));clear c0 et j HT;go_wp2_with fail
   refine x.out.mono ?_;rintro e w7 ⟨v7,rfl,s,R,S⟩;have T:=o.out.step (by omega) s R S;have D:=Lib.hid T;clear s R S T;go_wp2_with fail
   exact ⟨⟨k+1,by omega,by go_num,by rw [HN.out];exact D⟩,by simp [intOf];omega⟩
  ·have b6:k=a.length:=by omega
   subst b6;rw [List.take_length] at o b8;obtain ⟨l,j⟩:∃l,A5++eE a=l:=⟨_,rfl⟩;have X:l.length≤301+256 * a.length:=by rw [←j,List.length_append];omega
   rw [j] at o
   have hE:cA ⟨n,d,f,a,c⟩=l++(az 2 c.length++c):=by
    rw [←j,←b3.out,←b2.out,←b1.out,←b0.out];simp [cA,jC]
   obtain ⟨a6,c6,I⟩:=o.out.row.len;subst I;have i6:wr.cell? ⟨w.heap.size,4,none⟩=some (.string (bs c)):=by rw [Lib.cell_of_heap (K.out _ o.out.below)];rfl
   have x:=Lib.hid (kX _ l c 2 wr o.out.row (by omega) (by omega) (by omega));have O:=Lib.hid hE;clear j hE;go_wp2_with fail
   refine x.out.mono ?_;rintro e w7 ⟨v7,rfl,s,R,S⟩;have T:=o.out.step (by omega) s R S;have a9:=s.string;obtain ⟨A7,V⟩:∃A,l++(az 2 c.length++c)=A:=⟨_,rfl⟩;rw [V] at a9 O s;obtain ⟨a7,c7,rfl⟩:=s.len;have D:=Lib.hid T;clear s R S T V;go_wp2_with fail
   go_ret;exact ⟨by rw [O.out];rfl,N.out.trans (D.out.below.mono (by omega))⟩
theorem oQ (l:List UInt8) (w:World) (d:l.length≤281474976710656):Calls Tryz.prog 69 #[.string (bs l)] w fun e a=>e= .returned (.string (bs l))∧Below w.heap.size w a:=by
 have c:=Tryz.stringslite_Clone (bs l) w (by rw [aG];exact d);go_enter Tryz.func69,Tryz.ntmps69;go_wp2_with fail
 refine c.mono ?_;rintro e a ⟨rfl,b⟩;go_wp2_with fail
 go_ret;exact ⟨rfl,b⟩
def gy (l:List (Nat×List UInt8)):List (List UInt8):=l.map (·.2)
theorem Bq {D:Array Value} {k n:Nat} {b:List Value} {x:Value} (e:D.size=n) (f:k < n) (d:b.length=k) (h:D.toList.take k=b):(D.setIfInBounds k x).toList.take (k+1)=b++[x]:=by
 apply List.ext_getElem?;intro j;rw [List.getElem?_take]
 rcases Nat.lt_or_ge j k with c | c
 ·rw [if_pos (by omega),List.getElem?_append_left (by omega),Array.getElem?_toList,Array.getElem?_setIfInBounds_ne (by omega),←h,List.getElem?_take,if_pos c,Array.getElem?_toList]
 ·rw [List.getElem?_append_right (by omega),d]
  rcases Nat.lt_or_ge j (k+1) with a | a
  ·obtain rfl:j=k:=by omega
   rw [if_pos (by omega),Array.getElem?_toList,Array.getElem?_setIfInBounds];simp;omega
  ·rw [if_neg (by omega),List.getElem?_eq_none (by simp;omega)]
structure TS (w:World) (W:World) (s n:Nat) (D:Array Value) (xs:List Value) (k:Nat):Prop where
 size:D.size=n
 take:D.toList.take k=xs
 row:W.heap[s+1]? =some (.cells D 9 (0,0))
 mail:W.heap[s]? =some (.cells #[.int .i64 0,.int .i64 0,.string ⟨#[]⟩,.slice none 0 0,.string ⟨#[]⟩] 45 (0,0))
 below:Below s w W
 big:s+2≤W.heap.size
theorem TS.keep {w W b:World} {s n k:Nat} {D:Array Value} {c:List Value} (h:TS w W s n D c k) (a:Below W.heap.size W b):TS w b s n D c k:=
 ⟨h.size,h.take,ae a h.row,ae a h.mail,h.below.trans (a.mono (by have:=h.big;omega)),Nat.le_trans h.big a.size⟩
theorem TS.put {w W:World} {s n k:Nat} {D:Array Value} {b:List Value} (h:TS w W s n D b k) (c:k < n) (d:b.length=k) (x:Value):TS w (W.setCell ⟨s+1,k,none⟩ x) s n (D.setIfInBounds k x) (b++[x]) (k+1):=by
 have a:aL (s+1) W (W.setCell ⟨s+1,k,none⟩ x):=(aL.refl _ _).setCell _;exact ⟨by simp [h.size],Bq h.size c d h.take,heap_setCell_same W (s+1) k _ _ x h.row,aP a h.mail (by omega),h.below.trans (a.below (by omega)),by rw [a.1];exact h.big⟩
theorem IK {w W c:World} {l:List (Nat×List UInt8)} {g b:Nat} {d a:List UInt8} {D:Array Value} (h:TS w W w.heap.size l.length D (aB (gy l)) l.length)
  (f:(((((W.setCell ⟨w.heap.size,0,none⟩ (.int .i64 g)).setCell ⟨w.heap.size,1,none⟩ (.int .i64 b)).setCell ⟨w.heap.size,2,none⟩ (.string (bs d))).setCell ⟨w.heap.size,3,none⟩ (.slice (some ⟨w.heap.size+1,0,none⟩) l.length l.length)).setCell ⟨w.heap.size,4,none⟩ (.string (bs a)))=c) (i:l.length≤255):
  c.heap[w.heap.size]? =some (.cells #[.int .i64 g,.int .i64 b,.string (bs d),.slice (some ⟨w.heap.size+1,0,none⟩) l.length l.length,.string (bs a)] 45 (0,0))∧c.ownsRow w.heap.size 9 1 (.slice (some ⟨w.heap.size+1,0,none⟩) l.length l.length) l.length (aB (gy l))∧Below w.heap.size w c:=by
 have e:aL w.heap.size W c:=by rw [←f];exact (((((aL.refl _ _).setCell _).setCell _).setCell _).setCell _).setCell _
 refine ⟨?_,⟨by simp [aB,gy],.inr ⟨w.heap.size+1,l.length,D,rfl,by omega,aP e h.row (by omega),Nat.le_refl _,by unfold maxLen;omega,by rw [h.size];omega,?_⟩⟩,h.below.trans (e.below (Nat.le_refl _))⟩
 ·rw [←f];exact heap_setCell_same _ _ 4 _ _ _ (heap_setCell_same _ _ 3 _ _ _ (heap_setCell_same _ _ 2 _ _ _ (heap_setCell_same _ _ 1 _ _ _ (heap_setCell_same _ _ 0 _ _ _ h.mail))))
 ·rw [Nat.mul_one,h.take]
theorem IJ (O q id d:Nat) (f b:List UInt8) (v:Value) (l:List (Nat×List UInt8)) (x:Int×Int) (w:World) (h:dL w q d f v b x) (hv:w.ownsRow O 162 2 v l.length (aR l)) (hl:l.length≤255) (hf:f.length≤255) (b6:b.length≤1048576) (hn:∀x∈l,x.2.length≤255):
  Calls Tryz.prog 60 #[.pointer (some ⟨q,0,none⟩),.int .i64 id] w fun e A=>∃g,e= .returned (.agg (aY ⟨id,d,f,gy l,b⟩ (.slice (some ⟨g,0,none⟩) l.length l.length)))∧w.heap.size≤g∧A.ownsRow w.heap.size 9 1 (.slice (some ⟨g,0,none⟩) l.length l.length) l.length (aB (gy l))∧Below w.heap.size w A:=by
 have HV:=Lib.hid hv;have HH:=Lib.hid h
 obtain ⟨E,H,rfl⟩:∃a c,v= .slice a l.length c:=by
  rcases hv.2 with ⟨e,h0⟩ | ⟨g,b5,b1,e,_⟩
  ·exact ⟨_,_,by rw [h0];exact e⟩
  ·exact ⟨_,_,e⟩
 have X:=fun A=>Dc (P:=Tryz.prog) Tryz.underlying25 nR l.length (by omega) (by omega) A;obtain ⟨C,eC⟩:∃C,madeCells (Value.string ⟨#[]⟩).cells (l.length * 1)=C:=⟨_,rfl⟩;have S:C.size=l.length:=by rw [←eC];simp [madeCells]
 rw [eC] at X;obtain ⟨W0,p⟩:∃W0:World,(w.alloc (.cells #[.int .i64 0,.int .i64 0,.string ⟨#[]⟩,.slice none 0 0,.string ⟨#[]⟩] 45)).alloc (.cells C 9)=W0:=⟨_,rfl⟩
 have T0:Hid (TS w W0 w.heap.size l.length C [] 0):=Lib.hid ⟨S,rfl,by
   rw [←p];have:=heap_alloc_new (w.alloc (.cells #[.int .i64 0,.int .i64 0,.string ⟨#[]⟩,.slice none 0 0,.string ⟨#[]⟩] 45)) (.cells C 9);simpa using this,by
   rw [←p];exact ae ((Below.refl _ _).alloc (Nat.le_refl _) _) (heap_alloc_new w _),by
   rw [←p]
   exact ((Below.refl _ _).alloc (Nat.le_refl _) _).alloc (by simp) _,by rw [←p];simp⟩
 have b3:q < w.heap.size:=sZ h
 have k0:∀o:Obj,(w.alloc o).cell? ⟨q,2,none⟩=some (.slice E l.length H):=fun o=>by
  rw [Lib.cell_of_heap (ae ((Below.refl _ w).alloc (Nat.le_refl _) o) h)];rfl
 have k1:∀o o':Obj,((w.alloc o).alloc o').cell? ⟨q,2,none⟩=some (.slice E l.length H):=fun o o'=>by
  rw [Lib.cell_of_heap (ae ((Below.refl _ (w.alloc o)).alloc (Nat.le_refl _) o') (ae ((Below.refl _ w).alloc (Nat.le_refl _) o) h))];rfl
 have a7:=Lib.hid p;clear h hv p;go_enter Tryz.func60,Tryz.ntmps60;go_wp2_with fail
 rw [a7.out];have a5:Hid (∀x∈l,x.2.length≤255):=Lib.hid hn;clear k0 k1 hn X;go_loopw [6,7,19] (fun _ _ i A=>∃(k:Nat) (D:Array Value),k≤l.length∧i= .int .i64 k∧Hid (TS w A w.heap.size l.length D (aB (gy (l.take k))) k)) (fun _ _ i _=>l.length - (intOf i).toNat)
 case atStart=>exact ⟨0,C,Nat.zero_le _,rfl,T0⟩
 case round=>
  clear T0 S eC;obtain ⟨k,D,hk,rfl,z⟩:=hrel
  by_cases t:k < l.length
  ·have b4:(k:Int) < (l.length:Int):=by omega
   obtain ⟨g,rfl,Q,R⟩:∃g,E=some ⟨g,0,none⟩∧w.cell? ⟨g,k * 2,none⟩=some (.int .i64 (l[k].1:Int))∧w.cell? ⟨g,k * 2+1,none⟩=some (.string (bs l[k].2)):=by
    rcases HV.out.2 with ⟨_,h0⟩ | ⟨g,cp,b1,e,_,hg,_,_,_,Y⟩
    ·omega
    ·injection e with e1 _ _;refine ⟨g,e1,?_,?_⟩
     ·rw [Lib.cell_of_heap hg,←Array.getElem?_toList,←List.getElem?_take_of_lt (show k * 2 < l.length * 2 by omega),Y];exact (dP l k t).1
     ·rw [Lib.cell_of_heap hg,←Array.getElem?_toList,←List.getElem?_take_of_lt (show k * 2+1 < l.length * 2 by omega),Y];exact (dP l k t).2
   have d0:wr.cell? ⟨g,k * 2,none⟩=some (.int .i64 (l[k].1:Int)):=(z.out.below.cell (by exact aC Q)).trans Q;have d1:wr.cell? ⟨g,k * 2+1,none⟩=some (.string (bs l[k].2)):=(z.out.below.cell (by exact aC R)).trans R;have Z:=a5.out l[k] (List.getElem_mem t);have B:Hid (aB (gy (l.take (k+1)))=aB (gy (l.take k))++[.string (bs l[k].2)]):=Lib.hid (by rw [List.take_succ_eq_append_getElem t];unfold gy aB;rw [List.map_append,List.map_append];rfl);have a9:Hid ((aB (gy (l.take k))).length=k):=Lib.hid (by simp [gy,aB];omega);obtain ⟨x,ex⟩:∃x,l[k]=x:=⟨_,rfl⟩;rw [ex] at d0 d1 Z B;obtain ⟨P,T⟩:=x;simp only at d0 d1 Z B;obtain ⟨W1,F⟩:∃W1:World,wr.alloc (.cells #[.int .i64 (P:Int),.string (bs T)] 162)=W1:=⟨_,rfl⟩;have B1:Below wr.heap.size wr W1:=by rw [←F];exact (Below.refl _ _).alloc (Nat.le_refl _) _
   have T1:=Lib.hid (z.out.keep B1);have a8:=Lib.hid F;have a3:=Lib.hid (oQ T W1 (by omega));clear ex Q R z B1 F;go_wp2_with fail
   rw [a8.out];refine a3.out.mono ?_;rintro e w2 ⟨rfl,V⟩;have N:=T1.out.keep V;have x0:∃u,w2.cell? ⟨w.heap.size+1,k,none⟩=some u:=by rw [Lib.cell_of_heap N.row];exact ⟨_,Array.getElem?_eq_getElem (by have:=N.size;omega)⟩
   obtain ⟨u0,x0⟩:=x0;have y0:=Lib.frozen_of_heap N.row k;have T3:=Lib.hid (N.put t a9.out (.string (bs T)));clear N V;go_wp2_with fail
   exact ⟨⟨k+1,_,by omega,by go_num,Lib.hid (by rw [B.out];exact T3.out)⟩,by simp [intOf];omega⟩
  ·have b2:k=l.length:=by omega
   subst b2;rw [List.take_length] at z;have U:dL wr q d f (.slice E l.length H) b x:=(z.out.below.block q b3).trans HH.out;have p0:wr.drew.cell? ⟨q,0,none⟩=some (.int .i64 d):=by show wr.cell? _=_;rw [Lib.cell_of_heap U];rfl
   have p1:wr.drew.cell? ⟨q,1,none⟩=some (.string (bs f)):=by show wr.cell? _=_;rw [Lib.cell_of_heap U];rfl
   have p3:wr.drew.cell? ⟨q,3,none⟩=some (.string (bs b)):=by show wr.cell? _=_;rw [Lib.cell_of_heap U];rfl
   have a6:=Lib.hid (z.out.keep ((Below.refl _ _).drew));have a4:Hid (dL wr.drew q d f (.slice E l.length H) b x):=Lib.hid U;have a2:=Lib.hid (oQ f wr.drew (by omega));have a1:Hid (∀W:World,Calls Tryz.prog 69 #[.string (bs b)] W fun e A=>e= .returned (.string (bs b))∧Below W.heap.size W A):=Lib.hid (fun W=>oQ b W (by omega));clear U z;go_wp2_with fail
   go_region_law (first
    | (go_simp;go_at_call 69;refine a2.out.mono ?_;rintro e w9 ⟨rfl,G⟩;have T9:=Lib.hid (a6.out.keep G);have P9:Hid (dL w9 q d f (.slice E l.length H) b x):=Lib.hid (ae G a4.out);have b7:w9.cell? ⟨q,0,none⟩=some (.int .i64 d):=(by rw [Lib.cell_of_heap P9.out];rfl);have b8:w9.cell? ⟨q,3,none⟩=some (.string (bs b)):=(by rw [Lib.cell_of_heap P9.out];rfl);clear G)
    | (go_simp;go_at_call 69;refine (a1.out w9).mono ?_;rintro e j ⟨rfl,s⟩;have r:=T9.out.keep s;have M:dL j q d f (.slice E l.length H) b x:=ae s P9.out;have a0:j.cell? ⟨q,0,none⟩=some (.int .i64 d):=(by rw [Lib.cell_of_heap M];rfl);have m0:j.cell? ⟨w.heap.size,0,none⟩=some (.int .i64 0):=(by rw [Lib.cell_of_heap r.mail];rfl);have m1:j.cell? ⟨w.heap.size,1,none⟩=some (.int .i64 0):=(by rw [Lib.cell_of_heap r.mail];rfl);have m2:j.cell? ⟨w.heap.size,2,none⟩=some (.string ⟨#[]⟩):=(by rw [Lib.cell_of_heap r.mail];rfl);have m3:j.cell? ⟨w.heap.size,3,none⟩=some (.slice none 0 0):=(by rw [Lib.cell_of_heap r.mail];rfl);have m4:j.cell? ⟨w.heap.size,4,none⟩=some (.string ⟨#[]⟩):=(by rw [Lib.cell_of_heap r.mail];rfl);have n0:=Lib.frozen_of_heap r.mail 0;have n1:=Lib.frozen_of_heap r.mail 1;have n2:=Lib.frozen_of_heap r.mail 2;have n3:=Lib.frozen_of_heap r.mail 3;have n4:=Lib.frozen_of_heap r.mail 4;have b0:=Lib.hid r;clear s r M))
   all_goals
    obtain ⟨m,y⟩:∃m:World,(((((j.setCell ⟨w.heap.size,0,none⟩ (.int .i64 id)).setCell ⟨w.heap.size,1,none⟩ (.int .i64 d)).setCell ⟨w.heap.size,2,none⟩ (.string (bs f))).setCell ⟨w.heap.size,3,none⟩ (.slice (some ⟨w.heap.size+1,0,none⟩) l.length l.length)).setCell ⟨w.heap.size,4,none⟩ (.string (bs b)))=m:=⟨_,rfl⟩;rw [y];obtain ⟨n,L,I⟩:=IK b0.out y hl;have Q:m.cell? ⟨w.heap.size,0,none⟩=some (.int .i64 id):=by rw [Lib.cell_of_heap n];rfl
    have R:m.cell? ⟨w.heap.size,1,none⟩=some (.int .i64 d):=by rw [Lib.cell_of_heap n];rfl
    have c2:m.cell? ⟨w.heap.size,2,none⟩=some (.string (bs f)):=by rw [Lib.cell_of_heap n];rfl
    have c3:m.cell? ⟨w.heap.size,3,none⟩=some (.slice (some ⟨w.heap.size+1,0,none⟩) l.length l.length):=by rw [Lib.cell_of_heap n];rfl
    have c4:m.cell? ⟨w.heap.size,4,none⟩=some (.string (bs b)):=by rw [Lib.cell_of_heap n];rfl
    have K:=Lib.hid L;have J:=Lib.hid I;clear y n L I m0 m1 m2 m3 m4 n0 n1 n2 n3 n4 a0 p0 p1 p3;go_wp2_with fail
    refine bodyPost_ret (v:= .agg #[.int .i64 id,.int .i64 d,.string (bs f),.slice (some ⟨w.heap.size+1,0,none⟩) l.length l.length,.string (bs b)]) (by simp [results,Tryz.results60,go_sem,Q,R,c2,c3,c4]) rfl ?_;exact ⟨w.heap.size+1,rfl,by omega,K.out,J.out⟩
structure Kb (w0:World) (b0:Nat) (C:Array Value) (W:World) (v:Value) (a:List UInt8):Prop where
 wr:WR w0.heap.size w0 W v a
 ne:v.ownBlock≠some b0
 blk:W.heap[b0]? =some (.cells C 193 (0,0))
theorem Kb.step {l W c:World} {b:Nat} {C:Array Value} {v f:Value} {a g:List UInt8} (h:Kb l b C W v a) (m:dT c f g) (i:aH (fun k=>v.ownBlock=some k) W c) (j:∀k,f.ownBlock=some k→v.ownBlock=some k∨W.heap.size≤k):Kb l b C c f g:=by
 have d:b < W.heap.size:=ah h.blk;refine ⟨h.wr.step (Nat.le_refl _) m i j,fun e=>?_,(i.block b d h.ne).trans h.blk⟩
 rcases j _ e with e | e
 ·exact h.ne e
 ·omega
theorem kM (s w:World) (v vp:Value) (c:List UInt8) (d:Nat) (a:List Nat) (r:WR s.heap.size s w v c) (hp:bg s vp a.length 1 (aZ a)) (hl:c.length≤1000) (W:d≤4294967295) (hn:a.length≤100) (D:∀x∈a,x≤255):
  Calls Tryz.prog 175 #[v,.agg #[.int .i64 d,vp]] w fun e w'=>∃v',e= .returned v'∧WR s.heap.size s w' v' (c++aM d a):=by
 obtain ⟨t,u,rfl,f⟩:=hp.one;have HV:=Lib.hid f;have M:=Lib.hid D;have Z:=r.below.size;obtain ⟨o,z⟩:∃o:World,w.alloc (.cells #[.int .i64 d,.slice t a.length u] 193)=o:=⟨_,rfl⟩;have I:Below w.heap.size w o:=by rw [←z];exact (Below.refl _ _).alloc (Nat.le_refl _) _
 have S:o.heap[w.heap.size]? =some (.cells #[.int .i64 d,.slice t a.length u] 193 (0,0)):=by rw [←z];exact heap_alloc_new w _
 have S1:Kb s w.heap.size #[.int .i64 d,.slice t a.length u] o v c:=⟨⟨r.row.below I,r.own,r.below.trans (I.mono Z)⟩,fun e=>by have:=r.row.lt e;omega,S⟩
 obtain ⟨a1,c1,rfl⟩:=r.row.len;have i0:o.cell? ⟨w.heap.size,0,none⟩=some (.int .i64 d):=by rw [Lib.cell_of_heap S];rfl
 have m:=Lib.hid S1;clear hp f D S I S1 r;go_enter Tryz.func175,Tryz.ntmps175;go_wp2_with fail
 refine (dF _ c d 4 o m.out.wr.row (by omega) W (by omega)).mono ?_;rintro e w2 ⟨v2,rfl,F,K2,O2⟩;have B:(c++az 4 d).length≤1004:=by rw [List.length_append,bf];omega
 obtain ⟨H,p⟩:∃A,c++az 4 d=A:=⟨_,rfl⟩;rw [p] at F B;have Q:=m.out.step F K2 O2;obtain ⟨a2,c2,rfl⟩:=F.len;have n:=Lib.hid Q;have K:=Lib.hid p;have i2:w2.cell? ⟨w.heap.size,1,none⟩=some (.slice t a.length u):=by rw [Lib.cell_of_heap Q.blk];rfl
 clear F K2 O2 Q p m i0;go_wp2_with fail
 refine (dF _ H a.length 1 w2 n.out.wr.row (by omega) (by omega) (by omega)).mono ?_;rintro e w3 ⟨v3,rfl,G,K3,O3⟩;have C:(H++az 1 a.length).length≤1005:=by rw [List.length_append,bf];omega
 obtain ⟨E,q⟩:∃A,H++az 1 a.length=A:=⟨_,rfl⟩;rw [q] at G C;have R:=n.out.step G K3 O3;obtain ⟨a3,c3,rfl⟩:=G.len;have N:=Lib.hid R;have L:=Lib.hid q;have i3:w3.cell? ⟨w.heap.size,1,none⟩=some (.slice t a.length u):=by rw [Lib.cell_of_heap R.blk];rfl
 clear G K3 O3 R q n i2;go_wp2_with fail
 go_loopw [0,19] (fun b i w'=>∃k:Nat,k≤a.length∧i= .int .i64 k∧Hid (Kb s w.heap.size #[.int .i64 d,.slice t a.length u] w' b (E++fB (a.take k)))) (fun _ i _=>a.length - (intOf i).toNat)
 case atStart=>
  refine ⟨0,Nat.zero_le _,rfl,Lib.hid ?_⟩;rw [List.take_zero,show fB []=[] from rfl,List.append_nil];exact N.out
 case round=>
  obtain ⟨k,hk,rfl,l⟩:=hrel;have a7:(fB (a.take k)).length≤k:=by rw [jd,List.length_take];omega
  by_cases j:k < a.length
  ·have a4:(k:Int) < (a.length:Int):=by omega
   obtain ⟨g,a0,rfl,V,T⟩:=HV.out k j;rw [lY a k j] at T;have d0:wr.cell? ⟨g,a0+k,none⟩=some (.int .i64 (a[k]:Nat)):=(l.out.wr.below.cell (by exact V)).trans T;have P:Hid (fB (a.take (k+1))=fB (a.take k)++az 1 a[k]):=Lib.hid (zr a k j);have Y:=M.out a[k] (List.getElem_mem j);obtain ⟨x,ex⟩:∃x,a[k]=x:=⟨_,rfl⟩;rw [ex] at d0 P Y;obtain ⟨y,h⟩:∃y,E++fB (a.take k)=y:=⟨_,rfl⟩;have a5:y.length≤1005+k:=by rw [←h,List.length_append];omega
   have HN:Hid (E++fB (a.take (k+1))=y++az 1 x):=Lib.hid (by rw [P.out,←List.append_assoc,h]);rw [h] at l;obtain ⟨a6,c6,U⟩:=l.out.wr.row.len;subst U;have J:=Lib.hid (dF _ y x 1 wr l.out.wr.row (by omega) (by omega) (by omega));clear T ex h P;go_wp2_with fail
   refine J.out.mono ?_;rintro e w7 ⟨v7,rfl,R7,K7,O7⟩;have O:=Lib.hid (l.out.step R7 K7 O7);clear R7 K7 O7;go_wp2_with fail
   exact ⟨⟨k+1,by omega,by go_num,by rw [HN.out];exact O⟩,by simp [intOf];omega⟩
  ·have X:k=a.length:=by omega
   subst X;rw [List.take_length] at l;have HE:Hid (c++aM d a=E++fB a):=Lib.hid (by rw [←L.out,←K.out];simp [aM]);go_wp2_with fail
   go_ret;exact ⟨_,rfl,by rw [HE.out];exact l.out.wr⟩
theorem xr (E:Value) (c:Nat) (b:List Nat) (w:World) (u:bg w E b.length 1 (aZ b)) (t:c≤4294967295) (I:b.length≤100) (l:∀x∈b,x≤255):
  Calls Tryz.prog 171 #[.agg #[.int .i64 c,E]] w fun e J=>e= .returned (.string (bs (71::aM c b)))∧Below w.heap.size w J:=by
 obtain ⟨n,o,rfl,_⟩:=u.one;obtain ⟨a,d⟩:∃a:World,w.alloc (.cells #[.int .i64 c,.slice n b.length o] 193)=a:=⟨_,rfl⟩;have p:Below w.heap.size w a:=by rw [←d];exact (Below.refl _ _).alloc (Nat.le_refl _) _
 have C:a.heap[w.heap.size]? =some (.cells #[.int .i64 c,.slice n b.length o] 193 (0,0)):=by rw [←d];exact heap_alloc_new w _
 have v:a.heap.size=w.heap.size+1:=by rw [←d];simp
 have j:=Lib.run_convert_bytes_const (P:=Tryz.prog) a 114 5 #[.int .u8 71] 1 1 Tryz.underlying114 Tryz.underlying5;have m:Below a.heap.size a (a.alloc (.cells #[.int .u8 71] 5 (1,2))):=(Below.refl _ _).alloc (Nat.le_refl _) _;have s:dT (a.alloc (.cells #[.int .u8 71] 5 (1,2))) (.slice (some ⟨a.heap.size,0,none⟩) 1 1) [71]:= .inr ⟨a.heap.size,1,#[.int .u8 71],(1,2),rfl,heap_alloc_new a _,.inr (Nat.le_refl _),Nat.le_refl _,by unfold maxLen;decide,rfl,rfl⟩
 obtain ⟨f,h⟩:∃f:World,a.alloc (.cells #[.int .u8 71] 5 (1,2))=f:=⟨_,rfl⟩;rw [show (#[Value.int .u8 71]:Array Value).size=1 from rfl,h] at j;rw [h] at s m;have B:WR a.heap.size a f (.slice (some ⟨a.heap.size,0,none⟩) 1 1) [71]:=⟨s,fun k e=>by injection e with e;have e:a.heap.size=k:=e;omega,m⟩
 have y:f.heap[w.heap.size]? =some (.cells #[.int .i64 c,.slice n b.length o] 193 (0,0)):=(m.block _ (by omega)).trans C;have M:f.cell? ⟨w.heap.size,0,none⟩=some (.int .i64 c):=by rw [Lib.cell_of_heap y];rfl
 have N:f.cell? ⟨w.heap.size,1,none⟩=some (.slice n b.length o):=by rw [Lib.cell_of_heap y];rfl
 have z:=Lib.hid (kM a f _ _ [71] c b B (u.below p) (by simp) t I l);have q:=Lib.hid p;rw [v] at j z;have H:=Lib.hid d;clear u l C p s m B h y;go_enter Tryz.func171,Tryz.ntmps171;go_wp2_with fail
 refine z.out.mono ?_;rintro e Q ⟨O,rfl,i⟩;have r:=Lib.hid (q.out.trans (i.below.mono (by omega)));obtain ⟨F,g⟩:∃A,[71]++aM c b=A:=⟨_,rfl⟩;have G:Hid (71::aM c b=F):=Lib.hid g;rw [g] at i;have D:=i.row.string;obtain ⟨K,L,rfl⟩:=i.row.len;clear i g;go_wp2_with fail
 go_ret;exact ⟨by rw [G.out];rfl,r.out⟩
theorem sL (R:Value) (a d:Nat) (c:List Nat) (w:World) (I:bg w R c.length 1 (aZ c)) (Y:a≤4294967295) (H:d≤4294967295) (X:c.length≤100) (o:∀x∈c,x≤255):
  Calls Tryz.prog 124 #[.int .i64 a,.agg #[.int .i64 d,R]] w fun e w'=>e= .returned (.string (bs (70::(az 4 a++aM d c))))∧Below w.heap.size w w':=by
 obtain ⟨r,s,rfl,_⟩:=I.one;obtain ⟨b,g⟩:∃b:World,w.alloc (.cells #[.int .i64 d,.slice r c.length s] 193)=b:=⟨_,rfl⟩;have v:Below w.heap.size w b:=by rw [←g];exact (Below.refl _ _).alloc (Nat.le_refl _) _
 have O:b.heap[w.heap.size]? =some (.cells #[.int .i64 d,.slice r c.length s] 193 (0,0)):=by rw [←g];exact heap_alloc_new w _
 have j:b.heap.size=w.heap.size+1:=by rw [←g];simp
 have n:=Lib.run_convert_bytes_const (P:=Tryz.prog) b 114 5 #[.int .u8 70] 1 1 Tryz.underlying114 Tryz.underlying5;have y:Below b.heap.size b (b.alloc (.cells #[.int .u8 70] 5 (1,2))):=(Below.refl _ _).alloc (Nat.le_refl _) _;have p:dT (b.alloc (.cells #[.int .u8 70] 5 (1,2))) (.slice (some ⟨b.heap.size,0,none⟩) 1 1) [70]:= .inr ⟨b.heap.size,1,#[.int .u8 70],(1,2),rfl,heap_alloc_new b _,.inr (Nat.le_refl _),Nat.le_refl _,by unfold maxLen;decide,rfl,rfl⟩
 obtain ⟨q,i⟩:∃q:World,b.alloc (.cells #[.int .u8 70] 5 (1,2))=q:=⟨_,rfl⟩;rw [show (#[Value.int .u8 70]:Array Value).size=1 from rfl,i] at n;rw [i] at p y;have N:WR b.heap.size b q (.slice (some ⟨b.heap.size,0,none⟩) 1 1) [70]:=⟨p,fun k e=>by injection e with e;have e:b.heap.size=k:=e;omega,y⟩
 have F:=Lib.hid N;have G:=Lib.hid O;have C:=Lib.hid (I.below v);have D:=Lib.hid o;have E:=Lib.hid (dF _ [70] a 4 q p (by simp) Y (by omega));have z:=Lib.hid v;rw [j] at n E;have V:=Lib.hid g;clear I o O v p y N i;go_enter Tryz.func124,Tryz.ntmps124;go_wp2_with fail
 refine E.out.mono ?_;rintro e t ⟨Z,rfl,M,K,L⟩;have l:=F.out.step (Nat.le_refl _) M (by rw [j];exact K) (by rw [j];exact L);obtain ⟨u,f⟩:∃A,[70]++az 4 a=A:=⟨_,rfl⟩;have W:u.length≤5:=by rw [←f,List.length_append,bf];simp
 rw [f] at l;have U:=Lib.hid (kM b t Z _ u d c l C.out (by omega) H X D.out);have J:t.heap[w.heap.size]? =some (.cells #[.int .i64 d,.slice r c.length s] 193 (0,0)):=(l.below.block _ (by omega)).trans G.out;have i0:t.cell? ⟨w.heap.size,0,none⟩=some (.int .i64 d):=by rw [Lib.cell_of_heap J];rfl
 have i1:t.cell? ⟨w.heap.size,1,none⟩=some (.slice r c.length s):=by rw [Lib.cell_of_heap J];rfl
 obtain ⟨a2,c2,rfl⟩:=l.row.len;clear M K L l J E;go_wp2_with fail
 refine U.out.mono ?_;rintro e w3 ⟨v3,rfl,m⟩;have B:=Lib.hid (z.out.trans (m.below.mono (by omega)));obtain ⟨S,h⟩:∃A,u++aM d c=A:=⟨_,rfl⟩;have T:Hid (70::(az 4 a++aM d c)=S):=Lib.hid (by rw [←h,←f];simp);rw [h] at m;have Q:=m.row.string;obtain ⟨a3,c3,rfl⟩:=m.row.len;clear m h f;go_wp2_with fail
 go_ret;exact ⟨by rw [T.out];rfl,B.out⟩
structure aQ where
 i:Nat
 said:Nat
 una:List (Nat×List UInt8)
 wil:List (Nat×List UInt8)
 came:List (Nat×Bool)
def yQ:List UInt8:=[13,10]
def aQ.leave (t:aQ) (l:List (Nat×List UInt8)) (b:Bool):aQ:={t with came:=t.came++l.map fun x=>(x.1,b)}
def aQ.say (t:aQ) (s:Nat) (l:List UInt8):aQ×List UInt8:=({t with said:=s},l++yQ)
def aQ.quit (t:aQ):aQ×List UInt8:=t.say 6 [81,85,73,84]
def aQ.ask (t:aQ):aQ×List UInt8:=
 match t.una with
 | r::_=>t.say 3 ([82,67,80,84,32,84,79,58,60]++r.2++[62])
 | []=>if t.wil=[] then t.quit else t.say 4 [68,65,84,65]
def aQ.hear (host frm sent:List UInt8) (t:aQ) (a:Nat):aQ×List UInt8:=
 if t.said=0 then (if a=2 then t.say 1 ([69,72,76,79,32]++host) else t.quit)
 else if t.said=1 then (if a=2 then t.say 2 ([77,65,73,76,32,70,82,79,77,58,60]++frm++[62]) else t.quit)
 else if t.said=2 then (if a=2 then t.ask else if a=5 then (t.leave t.una false).quit else t.quit)
 else if t.said=3 then
  (if a=2 then ({t with una:=t.una.drop 1,wil:=t.wil++t.una.take 1}:aQ).ask
  else if a=5 then (({t with una:=t.una.drop 1}:aQ).leave (t.una.take 1) false).ask
  else ({t with una:=t.una.drop 1}:aQ).ask)
 else if t.said=4 then (if a=3 then t.say 5 (sent++yQ++[46]) else if a=5 then (t.leave t.wil false).quit else t.quit)
 else (if a=2 then (t.leave t.wil true).quit else if a=5 then (t.leave t.wil false).quit else t.quit)
def aQ.act (t:aQ):List Nat:=(if t.said=6 then [] else (t.una++t.wil).map (·.1))++t.came.map (·.1)
structure dC (L:List (Nat×List UInt8)) (t:aQ):Prop where
 said:t.said≤6
 una:t.said=3→t.una≠[]
 nd:t.act.Nodup
 sub:∀x∈t.act,x∈L.map (·.1)
 room:t.act.length≤L.length
 mem:∀x∈t.una++t.wil,x∈L
theorem dC.le {L:List (Nat×List UInt8)} {t a:aQ} (h:dC L t) (c:a.said≤6) (d:a.said=3→a.una≠[]) (f:∃m:List Nat,m.Perm a.act∧m.Sublist t.act) (e:∀x∈a.una++a.wil,x∈t.una++t.wil):dC L a:=by
 obtain ⟨m,p,s⟩:=f;exact ⟨c,d,p.nodup_iff.1 (h.nd.sublist s),fun x b=>h.sub x (s.subset (p.mem_iff.2 b)),by rw [←p.length_eq];exact Nat.le_trans s.length_le h.room,fun x b=>h.mem x (e x b)⟩
theorem Kf {t:aQ} (h:t.said=6):t.act=t.came.map (·.1):=by unfold aQ.act;rw [if_pos h];rfl
theorem lG {t:aQ} (h:t.said≠6):t.act=(t.una++t.wil).map (·.1)++t.came.map (·.1):=by unfold aQ.act;rw [if_neg h]
theorem nY {L:List (Nat×List UInt8)} {t:aQ} (h:dC L t):dC L t.quit.1:=by
 refine h.le (by show 6≤6;omega) (by show 6=3→_;omega) ⟨_,List.Perm.refl _,?_⟩ (fun x a=>a);rw [Kf (by rfl)];unfold aQ.act;exact List.sublist_append_right _ _
theorem lT {L l:List (Nat×List UInt8)} {t:aQ} (h:dC L t) (a:t.said≠6) (c:l=t.una∨l=t.wil) (b:Bool):dC L (t.leave l b).quit.1:=by
 refine h.le (by show 6≤6;omega) (by show 6=3→_;omega) ⟨l.map (·.1)++t.came.map (·.1),?_,?_⟩ (fun x d=>d)
 ·rw [Kf (by rfl)];show List.Perm _ ((t.came++l.map fun x=>(x.1,b)).map (·.1));rw [List.map_append,List.map_map];exact List.perm_append_comm
 ·rw [lG a];refine List.Sublist.append_right ?_ _;rw [List.map_append]
  rcases c with rfl | rfl
  ·exact List.sublist_append_left _ _
  ·exact List.sublist_append_right _ _
theorem yz {L:List (Nat×List UInt8)} {t:aQ} (h:dC L t) (b:t.said≠6):dC L t.ask.1:=by
 unfold aQ.ask
 split
 ·rename_i r u e
  refine h.le (by show 3≤6;omega) (fun _=>by show t.una≠[];rw [e];simp) ⟨_,List.Perm.refl _,?_⟩ (fun x a=>a);rw [lG b,lG (by show 3≠6;omega)];exact List.Sublist.refl _
 ·split
  ·exact nY h
  ·refine h.le (by show 4≤6;omega) (by show 4=3→_;omega) ⟨_,List.Perm.refl _,?_⟩ (fun x a=>a);rw [lG b,lG (by show 4≠6;omega)];exact List.Sublist.refl _
theorem DF {L:List (Nat×List UInt8)} {t:aQ} (h:dC L t) (b:t.said≠6) (s:Nat) (d:s < 6) (a:s≠3) (l:List UInt8):dC L (t.say s l).1:=by
 refine h.le (by show s≤6;omega) (fun e=>absurd e a) ⟨_,List.Perm.refl _,?_⟩ (fun x c=>c);rw [lG b,lG (by show s≠6;omega)];exact List.Sublist.refl _
theorem Gq {L:List (Nat×List UInt8)} {t:aQ} (h:dC L t) (e:t.said=3):∃r u,t.una=r::u∧dC L {t with said:=4,una:=t.una.drop 1,wil:=t.wil++t.una.take 1}∧dC L (({t with said:=4,una:=t.una.drop 1}:aQ).leave (t.una.take 1) false)∧dC L {t with said:=4,una:=t.una.drop 1}:=by
 have f:=h.una e;obtain ⟨i,d,una,a,b⟩:=t;simp only at e f;subst e
 cases una with
 | nil=>exact absurd rfl f
 | cons r u=>
  refine ⟨r,u,rfl,?_,?_,?_⟩
  ·refine h.le (by show 4≤6;omega) (by show 4=3→_;omega) ⟨_,?_,List.Sublist.refl _⟩ (fun x c=>?_)
   ·show List.Perm (((r::u)++a).map (·.1)++b.map (·.1)) ((u++(a++[r])).map (·.1)++b.map (·.1));refine List.Perm.append_right _ (List.Perm.map _ ?_);rw [←List.append_assoc];exact List.perm_append_singleton r (u++a) |>.symm
   ·have c:x∈u++(a++[r]):=c;show x∈(r::u)++a;simp only [List.mem_append,List.mem_cons,List.not_mem_nil,or_false] at c ⊢
    rcases c with c | c | c
    ·exact .inl (.inr c)
    ·exact .inr c
    ·exact .inl (.inl c)
  ·refine h.le (by show 4≤6;omega) (by show 4=3→_;omega) ⟨_,?_,List.Sublist.refl _⟩ (fun x c=>?_)
   ·show List.Perm (((r::u)++a).map (·.1)++b.map (·.1)) ((u++a).map (·.1)++(b++[(r.1,false)]).map (·.1));rw [List.map_append (l₁:=b),←List.append_assoc];exact List.perm_append_singleton r.1 _ |>.symm
   ·have c:x∈u++a:=c;show x∈(r::u)++a;exact List.mem_cons_of_mem _ c
  ·refine h.le (by show 4≤6;omega) (by show 4=3→_;omega) ⟨_,List.Perm.refl _,?_⟩ (fun x c=>?_)
   ·show List.Sublist ((u++a).map (·.1)++b.map (·.1)) (((r::u)++a).map (·.1)++b.map (·.1));exact List.sublist_cons_self _ _
   ·have c:x∈u++a:=c;show x∈(r::u)++a;exact List.mem_cons_of_mem _ c
theorem Ei {L:List (Nat×List UInt8)} {t:aQ} (h:dC L t) (b:t.said≠6) (c e d:List UInt8) (a:Nat):dC L (t.hear c e d a).1:=by
 unfold aQ.hear
 split
 ·split
  ·exact DF h b 1 (by omega) (by omega) _
  ·exact nY h
 ·split
  ·split
   ·exact DF h b 2 (by omega) (by omega) _
   ·exact nY h
  ·split
   ·split
    ·exact yz h b
    ·split
     ·exact lT h b (.inl rfl) _
     ·exact nY h
   ·split
    ·rename_i f
     obtain ⟨r,u,_,g,i,j⟩:=Gq h f
     split
     ·have:=yz g (by show 4≠6;omega);exact this
     ·split
      ·have:=yz i (by show 4≠6;omega);exact this
      ·have:=yz j (by show 4≠6;omega);exact this
    ·split
     ·split
      ·exact DF h b 5 (by omega) (by omega) _
      ·split
       ·exact lT h b (.inr rfl) _
       ·exact nY h
     ·split
      ·exact lT h b (.inr rfl) _
      ·split
       ·exact lT h b (.inr rfl) _
       ·exact nY h
def aQ.took (t:aQ) (b:Bool):List Nat:=((t.came.filter fun x=>x.2 == b).map (·.1)).mergeSort (fun x y=>decide (x≤y))
theorem oc (t:aQ) (b:Bool):(t.took b).Perm ((t.came.filter fun x=>x.2 == b).map (·.1)):=List.mergeSort_perm _ _
theorem ob {t:aQ} {b:Bool} {x:Nat} (h:x∈t.took b):x∈t.came.map (·.1):=by
 rw [(oc t b).mem_iff,List.mem_map] at h;obtain ⟨y,a,rfl⟩:=h;exact List.mem_map.2 ⟨y,(List.mem_filter.1 a).1,rfl⟩
theorem tU {L:List (Nat×List UInt8)} {t:aQ} (h:dC L t):(t.came.map (·.1)).Nodup:=h.nd.sublist (by unfold aQ.act;exact List.sublist_append_right _ _)
theorem mn {L:List (Nat×List UInt8)} {t:aQ} (h:dC L t) {x:Nat} (k:x∈t.took true) (m:x∈t.took false):False:=by
 rw [(oc t _).mem_iff,List.mem_map] at k m;obtain ⟨y,e,i⟩:=k;obtain ⟨z,f,j⟩:=m;rw [List.mem_filter,beq_iff_eq] at e f;have o:t.came.Pairwise (fun a b=>a.1≠b.1):=List.pairwise_map.1 (tU h)
 have g:∀(l:List (Nat×Bool)),l.Pairwise (fun a b=>a.1≠b.1)→y∈l→z∈l→y=z:=by
  intro l n
  induction n with
  | nil=>intro a;cases a
  | cons ha _ ih=>
   intro a b
   rcases List.mem_cons.1 a with d | d
   ·rcases List.mem_cons.1 b with c | c
    ·rw [d,c]
    ·exact absurd (i.trans j.symm) (by rw [d];exact ha z c)
   ·rcases List.mem_cons.1 b with c | c
    ·exact absurd (j.trans i.symm) (by rw [c];exact ha y d)
    ·exact ih d c
 have:=g _ o e.1 f.1;rw [this] at e;rw [f.2] at e;exact absurd e.2 (by decide)
theorem iu {L:List (Nat×List UInt8)} {t:aQ} (h:dC L t) (b:Bool):(t.took b).Pairwise (·< ·):=by
 have d:(t.took b).Pairwise (fun x y=>decide (x≤y)=true):=List.pairwise_mergeSort (fun a b c d e=>by simp only [decide_eq_true_eq] at *;omega) (fun a b=>by simp only [Bool.or_eq_true,decide_eq_true_eq];omega) _;have e:(t.took b).Nodup:=(oc t b).nodup_iff.2 ((tU h).sublist ((List.filter_sublist).map _))
 exact (d.and e).imp fun {a b} hab=>by
  have:=hab.1;simp only [decide_eq_true_eq] at this;have:=hab.2;omega
theorem kF {L:List (Nat×List UInt8)} {t:aQ} (h:dC L t) (b:Bool):(t.took b).length≤L.length:=by
 rw [(oc t b).length_eq,List.length_map];have c:=List.length_filter_le (fun x:Nat×Bool=>x.2 == b) t.came;have a:=h.room;unfold aQ.act at a;rw [List.length_append,List.length_map] at a;omega
theorem qP:(Tryz.prog.info? 3).map (fun i=>(i.zero,i.size,i.bytes))=some (some (.int .i64 0),1,8):=by kernel_rfl
structure PS (w W:World) (s n:Nat) (D:Array Value) (xs:List Value) (k:Nat):Prop where
 size:D.size=n
 take:D.toList.take k=xs
 row:W.heap[s]? =some (.cells D 3 (0,0))
 below:Below s w W
 big:s+1≤W.heap.size
theorem PS.keep {w W b:World} {s n k:Nat} {D:Array Value} {c:List Value} (h:PS w W s n D c k) (a:Below W.heap.size W b):PS w b s n D c k:=
 ⟨h.size,h.take,ae a h.row,h.below.trans (a.mono (by have:=h.big;omega)),Nat.le_trans h.big a.size⟩
theorem PS.put {w W:World} {s n k:Nat} {D:Array Value} {a:List Value} (h:PS w W s n D a k) (c:k < n) (d:a.length=k) (x:Value):PS w (W.setCell ⟨s,k,none⟩ x) s n (D.setIfInBounds k x) (a++[x]) (k+1):=by
 have b:aL s W (W.setCell ⟨s,k,none⟩ x):=(aL.refl _ _).setCell _;exact ⟨by simp [h.size],Bq h.size c d h.take,heap_setCell_same W s k _ _ x h.row,h.below.trans (b.below (by omega)),by rw [b.1];exact h.big⟩
theorem Dr (s q B:Nat) (N t:List UInt8) (v:Value) (l:List (Nat×List UInt8)) (x:Int×Int) (w:World) (h:dL w q B N v t x) (Q:w.ownsRow s 162 2 v l.length (aR l)) (hl:l.length≤255):
  Calls Tryz.prog 84 #[.pointer (some ⟨q,0,none⟩)] w fun e n=>∃g,e= .returned (.slice (some ⟨g,0,none⟩) l.length l.length)∧n.ownsRow w.heap.size 3 1 (.slice (some ⟨g,0,none⟩) l.length l.length) l.length (aZ (l.map (·.1)))∧Below w.heap.size w n:=by
 have HV:=Lib.hid Q
 obtain ⟨I,V,rfl⟩:∃a c,v= .slice a l.length c:=by
  rcases Q.2 with ⟨e,Z⟩ | ⟨g,a1,L,e,_⟩
  ·exact ⟨_,_,by rw [Z];exact e⟩
  ·exact ⟨_,_,e⟩
 have z:=fun n=>Dc (P:=Tryz.prog) Tryz.underlying28 qP l.length (by omega) (by omega) n;obtain ⟨C,M⟩:∃C,madeCells (Value.int .i64 0).cells (l.length * 1)=C:=⟨_,rfl⟩;have y:C.size=l.length:=by rw [←M];simp [madeCells]
 rw [M] at z;obtain ⟨H,b⟩:∃H:World,w.alloc (.cells C 3)=H:=⟨_,rfl⟩;have U:Hid (PS w H w.heap.size l.length C [] 0):=Lib.hid ⟨y,rfl,by rw [←b];exact heap_alloc_new w _,by rw [←b];exact (Below.refl _ _).alloc (Nat.le_refl _) _,by rw [←b];simp⟩
 have k0:w.cell? ⟨q,2,none⟩=some (.slice I l.length V):=by rw [Lib.cell_of_heap h];rfl
 have k1:∀o:Obj,(w.alloc o).cell? ⟨q,2,none⟩=some (.slice I l.length V):=fun o=>by rw [Lib.cell_of_heap (ae ((Below.refl _ w).alloc (Nat.le_refl _) o) h)];rfl
 have E:=Lib.hid b;clear h Q b;go_enter Tryz.func84,Tryz.ntmps84;go_wp2_with fail
 rw [E.out];clear k0 k1 z;go_loopw [4,5,17] (fun _ _ i n=>∃(k:Nat) (D:Array Value),k≤l.length∧i= .int .i64 k∧Hid (PS w n w.heap.size l.length D (aZ ((l.map (·.1)).take k)) k)) (fun _ _ i _=>l.length - (intOf i).toNat)
 case atStart=>exact ⟨0,C,Nat.zero_le _,rfl,U⟩
 case round=>
  clear U y M;obtain ⟨k,D,hk,rfl,j⟩:=hrel
  by_cases f:k < l.length
  ·have a0:(k:Int) < (l.length:Int):=by omega
   obtain ⟨g,rfl,J,K⟩:∃g,I=some ⟨g,0,none⟩∧w.cell? ⟨g,k * 2,none⟩=some (.int .i64 (l[k].1:Int))∧w.cell? ⟨g,k * 2+1,none⟩=some (.string (bs l[k].2)):=by
    rcases HV.out.2 with ⟨_,Z⟩ | ⟨g,cp,L,e,_,hg,_,_,_,A⟩
    ·omega
    ·injection e with e1 _ _;refine ⟨g,e1,?_,?_⟩
     ·rw [Lib.cell_of_heap hg,←Array.getElem?_toList,←List.getElem?_take_of_lt (show k * 2 < l.length * 2 by omega),A];exact (dP l k f).1
     ·rw [Lib.cell_of_heap hg,←Array.getElem?_toList,←List.getElem?_take_of_lt (show k * 2+1 < l.length * 2 by omega),A];exact (dP l k f).2
   have W:wr.cell? ⟨g,k * 2,none⟩=some (.int .i64 (l[k].1:Int)):=(j.out.below.cell (by exact aC J)).trans J;have X:wr.cell? ⟨g,k * 2+1,none⟩=some (.string (bs l[k].2)):=(j.out.below.cell (by exact aC K)).trans K;have m:Hid (aZ ((l.map (·.1)).take (k+1))=aZ ((l.map (·.1)).take k)++[.int .i64 (l[k].1:Int)]):=Lib.hid (by rw [List.take_succ_eq_append_getElem (by rw [List.length_map];exact f)];unfold aZ;rw [List.map_append,List.getElem_map];rfl);have G:Hid ((aZ ((l.map (·.1)).take k)).length=k):=Lib.hid (by simp [aZ];omega);obtain ⟨x,Y⟩:∃x,l[k]=x:=⟨_,rfl⟩;rw [Y] at W X m;obtain ⟨P,T⟩:=x;simp only at W X m;obtain ⟨r,d⟩:∃r:World,wr.alloc (.cells #[.int .i64 (P:Int),.string (bs T)] 162)=r:=⟨_,rfl⟩;have S:Below wr.heap.size wr r:=by rw [←d];exact (Below.refl _ _).alloc (Nat.le_refl _) _
   have p:=j.out.keep S;have R:∃u,r.cell? ⟨w.heap.size,k,none⟩=some u:=by rw [Lib.cell_of_heap p.row];exact ⟨_,Array.getElem?_eq_getElem (by have:=p.size;omega)⟩
   obtain ⟨u0,R⟩:=R;have y0:=Lib.frozen_of_heap p.row k;have z0:r.cell? ⟨wr.heap.size,0,none⟩=some (.int .i64 (P:Int)):=by rw [←d,Lib.cell_of_heap (heap_alloc_new wr _)];rfl
   have T3:=Lib.hid (p.put f G.out (.int .i64 (P:Int)));have F:=Lib.hid d;rw [←d] at R y0;clear Y J K j S d p z0;go_wp2_with fail
   rw [F.out];exact ⟨⟨k+1,_,by omega,by go_num,Lib.hid (by rw [m.out];exact T3.out)⟩,by simp [intOf];omega⟩
  ·have O:k=l.length:=by omega
   subst O;go_wp2_with fail
   go_ret;refine ⟨w.heap.size,rfl,⟨by simp [aZ],.inr ⟨w.heap.size,l.length,D,rfl,Nat.le_refl _,j.out.row,Nat.le_refl _,by unfold maxLen;omega,by rw [j.out.size];omega,?_⟩⟩,j.out.below⟩
   rw [Nat.mul_one,j.out.take,List.take_of_length_le (by rw [List.length_map];exact Nat.le_refl _)]
def oo:ByteArray:=⟨#[13,10]⟩
def l9 (body:List UInt8):List ByteArray:=Lib.splitB oo 0 (Lib.countB (bs body) oo) (bs body)
def ky (x:ByteArray):ByteArray:=if Lib.hasPrefix x.data.toList [46] then (⟨#[46]⟩:ByteArray)++x else x
def mD (body:List UInt8):List UInt8:=Lib.join (((l9 body).map ky).map (·.data.toList)) [13,10]
theorem nG (a:ByteArray):∀(k:Nat) (s:ByteArray),∀x∈Lib.splitB a 0 k s,x.size≤s.size
 | 0,s,x,h=>by rw [Lib.splitB_zero,List.mem_singleton] at h;rw [h];exact Nat.le_refl _
 | k+1,s,x,h=>by
  unfold Lib.splitB at h
  split at h
  ·rw [List.mem_singleton] at h;rw [h];exact Nat.le_refl _
  ·rcases List.mem_cons.1 h with e | e
   ·rw [e,ByteArray.size_extract];omega
   ·have:=nG a k _ x e;rw [ByteArray.size_extract] at this;omega
theorem rP (a:List UInt8):(l9 a).length=Lib.countB (bs a) oo+1:=Lib.splitB_all oo (by decide) 0 _ _ rfl
theorem rC (a:List UInt8):Lib.countB (bs a) oo≤a.length:=by
 have:=Lib.countB_le oo (by decide) _ (bs a) (Nat.le_refl _)
 rwa [aG] at this
theorem GF (x:ByteArray):(ky x).size≤x.size+1:=by
 unfold ky
 split
 ·rw [ByteArray.size_append];show 1+x.size≤_;omega
 ·omega
theorem Jj {a:List (List UInt8)} {m:Nat} (h:∀x∈a,x.length≤m):Lib.lens a≤a.length * m:=by
 unfold Lib.lens
 induction a with
 | nil=>simp
 | cons x a ih=>
  have c:=ih (fun y b=>h y (List.mem_cons_of_mem _ b));have d:=h x (List.mem_cons_self ..);simp only [List.map_cons,List.sum_cons,List.length_cons,Nat.add_mul];omega
theorem BH (a:List UInt8) (h:a.length≤1048576):(mD a).length≤10000000000000:=by
 unfold mD
 have c:∀x∈((l9 a).map ky).map (·.data.toList),x.length≤1048577:=by
  intro x g;obtain ⟨y,i,rfl⟩:=List.mem_map.1 g;obtain ⟨z,c,rfl⟩:=List.mem_map.1 i;have f:=nG oo _ _ z c;have j:=GF z;rw [aG] at f;show (ky z).data.toList.length≤_;rw [Array.length_toList];have:(ky z).data.size=(ky z).size:=rfl;omega
 have b:(((l9 a).map ky).map (·.data.toList)).length=Lib.countB (bs a) oo+1:=by rw [List.length_map,List.length_map,rP]
 have k:=rC a;have d:=Jj c;obtain ⟨X,e⟩:∃X,((l9 a).map ky).map (·.data.toList)=X:=⟨_,rfl⟩;rw [e] at b d ⊢;rw [b] at d
 cases X with
 | nil=>simp at b
 | cons x r=>
  rw [Lib.join_length];simp only [List.length_cons] at b;have:(Lib.countB (bs a) oo+1) * 1048577≤1048577 * 1048577:=Nat.mul_le_mul_right _ (by omega);show 2 * r.length+_≤_;omega
def Bj (X:List ByteArray) (k:Nat):List ByteArray:=(X.take k).map ky++X.drop k
theorem Jo {X:List ByteArray} {k:Nat} (h:k < X.length):(Bj X k)[k]? =some X[k]:=by
 unfold Bj;rw [List.getElem?_append_right (by rw [List.length_map,List.length_take];omega),List.length_map,List.length_take,Nat.min_eq_left (Nat.le_of_lt h),Nat.sub_self,List.getElem?_drop,Nat.add_zero,List.getElem?_eq_getElem h]
theorem Bk {X:List ByteArray} {k:Nat} (h:k < X.length):Bj X (k+1)=(X.take k).map ky++(ky X[k]::X.drop (k+1)):=by
 unfold Bj;rw [List.take_succ_eq_append_getElem h,List.map_append,List.append_assoc];rfl
theorem Jp {X:List ByteArray} {k:Nat} (h:k < X.length):(Bj X k).set k (ky X[k])=Bj X (k+1):=by
 rw [Bk h];unfold Bj;rw [List.set_append_right _ _ (by rw [List.length_map,List.length_take];omega),List.length_map,List.length_take,Nat.min_eq_left (Nat.le_of_lt h),Nat.sub_self,List.drop_eq_getElem_cons h];rfl
theorem Ht {X:List ByteArray} {k:Nat} (h:k < X.length) (a:ky X[k]=X[k]):Bj X k=Bj X (k+1):=by
 rw [Bk h,a];unfold Bj;rw [List.drop_eq_getElem_cons h]
theorem Hu (X:List ByteArray):Bj X 0=X:=by simp [Bj]
theorem Jn (X:List ByteArray):Bj X X.length=X.map ky:=by simp [Bj]
def rh (l:List ByteArray):Array Value:=(l.map Value.string).toArray
theorem DN (l:List ByteArray) (k:Nat) (y:ByteArray):(rh l).setIfInBounds k (.string y)=rh (l.set k y):=by simp [rh,List.map_set]
theorem vI (l:List ByteArray) (k:Nat):(rh l)[k]? =l[k]?.map Value.string:=by simp [rh]
theorem zH (a:List UInt8) (m:Int) (w:World) (T:w.cell? ⟨0,0,none⟩=some (.int .i64 m)) (Y:a.length≤1048576):
  Calls Tryz.prog 130 #[.string (bs a)] w fun e n=>e= .returned (.string (bs (mD a)))∧Below w.heap.size w n:=by
 have M:=aG a;have s:=Lib.hid (Tryz.strings_Split (bs a) ⟨#[13,10]⟩ m w (by omega) T (by decide));have f:=rP a;have I:=rC a;have q:Hid (∀x∈l9 a,x.size≤a.length):=Lib.hid (fun x N=>by have:=nG oo _ _ x N;rwa [aG] at this);have E:=Lib.hid (BH a Y);obtain ⟨X,g⟩:∃X,l9 a=X:=⟨_,rfl⟩;have t:Lib.splitB ⟨#[13,10]⟩ 0 (Lib.countB (bs a) ⟨#[13,10]⟩) (bs a)=X:=g;have R:Lib.countB (bs a) ⟨#[13,10]⟩+1=X.length:=by rw [←g];exact f.symm
 have W:X.length≤1048577:=by rw [←g,f];omega
 have r:Hid (mD a=Lib.join ((X.map ky).map (·.data.toList)) [13,10]):=Lib.hid (by unfold mD;rw [g]);rw [g] at q;rw [t,R] at s;obtain ⟨A,b⟩:∃A:World,w.alloc (.cells (X.map Value.string).toArray 9)=A:=⟨_,rfl⟩;have O:Below w.heap.size w A:=by rw [←b];exact (Below.refl _ _).alloc (Nat.le_refl _) _
 have Q:A.heap[w.heap.size]? =some (.cells (X.map Value.string).toArray 9 (0,0)):=by rw [←b];exact heap_alloc_new w _
 have F:=Lib.hid b;have B:=Lib.hid O;have G:=Lib.hid Q;clear T g t R f I O Q b M;go_enter Tryz.func130,Tryz.ntmps130;go_wp2_with fail
 refine s.out.mono ?_;rintro e w1 ⟨rfl,rfl⟩;rw [F.out];go_wp2_with fail
 go_loopw [4,5,10] (fun _ _ i n=>∃k:Nat,k≤X.length∧i= .int .i64 k∧Hid (n.heap[w.heap.size]? =some (.cells (rh (Bj X k)) 9 (0,0)))∧Hid (Below w.heap.size w n)) (fun _ _ i _=>X.length - (intOf i).toNat)
 case atStart=>exact ⟨0,Nat.zero_le _,rfl,Lib.hid (by rw [Hu];exact G.out),B⟩
 case round=>
  obtain ⟨k,hk,rfl,d,v⟩:=hrel
  by_cases c:k < X.length
  ·have S:(k:Int) < (X.length:Int):=by omega
   have N:wr.cell? ⟨w.heap.size,k,none⟩=some (.string X[k]):=by rw [Lib.cell_of_heap d.out,vI,Jo c];rfl
   have fx:=Lib.frozen_of_heap d.out k;have L:=q.out X[k] (List.getElem_mem c);have p:=Lib.hid (Jp c);have o:Hid (ky X[k]=X[k]→Bj X k=Bj X (k+1)):=Lib.hid (Ht c);obtain ⟨x,H⟩:∃x,X[k]=x:=⟨_,rfl⟩;rw [H] at N L p o;have z:Hid (Calls Tryz.prog 178 #[.string x,.string ⟨#[46]⟩] wr fun e n=>e= .returned (.bool (Lib.hasPrefix x.data.toList [46]))∧wr=n):=Lib.hid ((Tryz.strings_HasPrefix x ⟨#[46]⟩ wr).mono fun _ _ h=>⟨h.1,h.2.symm⟩);have U:¬9223372036854775807 < 1+x.size:=by omega
   cases l:Lib.hasPrefix x.data.toList [46] with
   | true=>
    have D:Hid (ky x=(⟨#[46]⟩:ByteArray)++x):=Lib.hid (by unfold ky;rw [l];rfl);rw [l] at z;clear l H;go_wp2_with (first | (go_at_call 178;refine z.out.mono ?_;rintro e V ⟨rfl,rfl⟩) | fail)
    refine ⟨⟨k+1,by omega,by go_num,Lib.hid ?_,Lib.hid (v.out.trans (((aL.refl w.heap.size wr).setCell _).below (Nat.le_refl _)))⟩,by simp [intOf];omega⟩
    rw [heap_setCell_same wr w.heap.size k _ _ _ d.out,DN,←p.out,D.out]
   | false=>
    have D:Hid (ky x=x):=Lib.hid (by unfold ky;rw [l];rfl);rw [l] at z;clear l H;go_wp2_with (first | (go_at_call 178;refine z.out.mono ?_;rintro e V ⟨rfl,rfl⟩) | fail)
    exact ⟨⟨k+1,by omega,by go_num,Lib.hid (by rw [d.out,o.out D.out]),v⟩,by simp [intOf];omega⟩
  ·have J:k=X.length:=by omega
   subst J;rw [Jn] at d;have K:(X.map ky).length=X.length:=List.length_map ..
   have P:=Lib.hid (Tryz.strings_Join w.heap.size 0 X.length (X.map ky) ⟨#[13,10]⟩ wr (fun j y Z=>by
    rw [Nat.zero_add,Lib.cell_of_heap d.out,vI,Z];rfl) (ah d.out) (by omega) (by omega) (by
    have:=E.out;rw [r.out] at this;have e:(⟨#[13,10]⟩:ByteArray).data.toList=[13,10]:=rfl;rw [e]
    omega))
   rw [K,show (⟨#[13,10]⟩:ByteArray).data.toList=[13,10] from rfl,←r.out] at P;go_wp2_with fail
   refine P.out.mono ?_;rintro e V ⟨rfl,u⟩;have C:=Lib.hid (v.out.trans (u.mono v.out.size));clear u;go_wp2_with fail
   go_ret;exact ⟨rfl,C.out⟩
theorem zW (s:ByteArray) (m:Int) (w:World) (g:s.size≤140737488355328) (d:w.cell? ⟨0,0,none⟩=some (.int .i64 m)):
  Calls Tryz.prog 86 #[.string s] w (jR s.data.toList w):=by
 go_enter Tryz.func86,Tryz.ntmps86;go_wp2_with fail
 refine (vz s m _ g d).mono ?_;rintro e h ⟨x,y,f,rfl,a,c⟩;have b:=Lib.hid a;clear a;go_wp2_with fail
 go_ret3
 exact jR.mk _ _ _ rfl b.out c
def tT (p:List UInt8):Prop:=∀j,hZ p j=false
theorem KE (s:List UInt8) (j:Nat):Lib.occAt s [13,10] j=hZ s j:=by
 have c:s[j]? =(s.drop j)[0]? :=by rw [List.getElem?_drop];rfl
 have d:s[j+1]? =(s.drop j)[1]? :=by rw [List.getElem?_drop]
 unfold Lib.occAt hZ;rw [c,d]
 rcases s.drop j with _ | ⟨a,_ | ⟨b,t⟩⟩
 ·rfl
 ·simp [List.isPrefixOf]
 ·rw [Bool.eq_iff_iff];simp only [List.isPrefixOf,Bool.and_true,Bool.and_eq_true,beq_iff_eq,List.getElem?_cons_zero,List.getElem?_cons_succ,Option.some.injEq]
  constructor <;> rintro ⟨e,f⟩ <;> exact ⟨e.symm,f.symm⟩
theorem pa (x a:List UInt8) {r:List (List UInt8)} (h:r≠[]):Lib.join (x::r) a=x++a++Lib.join r a:=by
 cases r with
 | nil=>exact absurd rfl h
 | cons y r=>rw [Lib.join_cons,Lib.join_cons];simp [Lib.joinTail]
theorem KH (a:ByteArray) (k:Nat) (s:ByteArray):Lib.splitB a 0 k s≠[]:=by
 cases k with
 | zero=>rw [Lib.splitB_zero];simp
 | succ k=>unfold Lib.splitB;split <;> simp
theorem Lt {s:List UInt8} (h:Lib.index s [13,10]= -1):tT s:=fun j=>by
 rcases Lib.index_spec s [13,10] with ⟨_,a⟩ | ⟨i,a,_⟩
 ·by_cases b:j≤s.length
  ·rw [←KE];exact a j b
  ·unfold hZ;rw [List.getElem?_eq_none (by omega)];rfl
 ·omega
theorem LD:∀(k:Nat) (s:ByteArray),Lib.countB s oo=k→(∀p∈Lib.splitB oo 0 k s,tT p.data.toList)∧Lib.join ((Lib.splitB oo 0 k s).map (·.data.toList)) [13,10]=s.data.toList:=by
 intro k
 induction k with
 | zero=>
  intro s y
  rcases Lib.indexB_cases s oo with a | ⟨i,a,_⟩
  ·rw [Lib.splitB_zero];refine ⟨fun p d=>?_,?_⟩
   ·rw [List.mem_singleton.1 d];exact Lt a
   ·rw [List.map_cons,List.map_nil,Lib.join_one]
  ·have:=Lib.countB_hit s oo i (by decide) a;omega
 | succ k ih=>
  intro s y
  rcases Lib.indexB_cases s oo with a | ⟨i,a,n⟩
  ·have:=Lib.countB_miss s oo a;omega
  ·have A:=Lib.countB_hit s oo i (by decide) a;obtain ⟨u,v⟩:=ih (s.extract (i+oo.size) s.size) (by omega);have q:oo.size=2:=rfl;have o:Lib.index s.data.toList [13,10]=i:=a;rw [Lib.splitB_hit oo 0 k s i a]
   rcases Lib.index_spec s.data.toList [13,10] with ⟨w,_⟩ | ⟨e,w,z,f,x⟩
   ·omega
   ·have t:e=i:=by omega
    subst t;rw [KE] at f;refine ⟨fun p d=>?_,?_⟩
    ·rcases List.mem_cons.1 d with d | d
     ·rw [d,Lib.extract_from_zero,Nat.add_zero];intro j
      by_cases B:j+1 < e
      ·have g:=x j (by omega);rw [KE] at g;unfold hZ at g ⊢;rw [List.getElem?_take_of_lt (by omega),List.getElem?_take_of_lt (by omega)];exact g
      ·unfold hZ;rw [List.getElem?_eq_none (l:=s.data.toList.take e) (i:=j+1) (by rw [List.length_take];omega),Bool.and_eq_false_iff];exact .inr rfl
     ·exact u p d
    ·rw [List.map_cons,pa _ _ (by simpa using KH oo k _),v,Lib.extract_from_zero,Lib.extract_to_end,Nat.add_zero,q];unfold hZ at f;rw [Bool.and_eq_true,beq_iff_eq,beq_iff_eq] at f;obtain ⟨b,c⟩:=f;obtain ⟨m,c⟩:=List.getElem?_eq_some_iff.1 c;obtain ⟨h,b⟩:=List.getElem?_eq_some_iff.1 b;rw [List.append_assoc]
     have r:([13,10]:List UInt8)++s.data.toList.drop (e+2)=s.data.toList.drop e:=by
      rw [List.drop_eq_getElem_cons h,List.drop_eq_getElem_cons m,b,c];rfl
     rw [r,List.take_append_drop]
def py (p:List UInt8):List UInt8:=if Lib.hasPrefix p [46] then 46::p else p
theorem Lb (x:ByteArray):(ky x).data.toList=py x.data.toList:=by
 unfold ky py
 split
 ·simp
 ·rfl
def Ld (ls:List (List UInt8)):List UInt8:=ls.flatMap (·++[13,10])
def ax (P:List (List UInt8)):List UInt8:=Ld (P.map py)++[46]
theorem KP:∀{P:List (List UInt8)},P≠[]→Lib.join P [13,10]++[13,10]=Ld P
 | [],h=>absurd rfl h
 | [p],_=>by rw [Lib.join_one];simp [Ld]
 | p::q::P,_=>by
  rw [pa p _ (by simp),List.append_assoc,KP (by simp)];simp [Ld]
structure LH (body:List UInt8) (P:List (List UInt8)):Prop where
 ne:P≠[]
 no:∀p∈P,tT p
 all:Lib.join P [13,10]=body
 sent:mD body++[13,10]++[46]=ax P
theorem Lz (a:List UInt8):∃P,LH a P:=by
 obtain ⟨c,d⟩:=LD _ (bs a) rfl;have b:(l9 a).map (·.data.toList)≠[]:=by unfold l9;simpa using KH oo _ (bs a)
 refine ⟨(l9 a).map (·.data.toList),b,fun p f=>?_,?_,?_⟩
 ·obtain ⟨x,g,rfl⟩:=List.mem_map.1 f;exact c x g
 ·unfold l9;rw [d];rfl
 ·unfold ax mD;rw [←KP (by simpa using b),List.map_map,List.map_map];have e:(fun x:ByteArray=>x.data.toList) ∘ ky=py ∘ (fun x:ByteArray=>x.data.toList):=funext Lb;rw [e]
theorem Lg {p:List UInt8} (h:tT p):tT (py p):=by
 unfold py
 split
 ·intro j
  cases j with
  | zero=>unfold hZ;simp
  | succ j=>
   have:=h j;unfold hZ at this ⊢;simpa using this
 ·exact h
theorem KK {l:List UInt8} (h:tT l) (r:List UInt8):gf (l++[13,10]++r)=(l,r):=by
 rw [List.append_assoc,yh (k:=l.length)]
 ·rw [List.take_left' rfl,←List.drop_drop,List.drop_left' rfl];rfl
 ·unfold hZ;rw [List.getElem?_append_right (Nat.le_refl _),List.getElem?_append_right (show l.length≤l.length+1 from Nat.le_succ _),Nat.sub_self,Nat.add_sub_cancel_left];rfl
 ·intro j a;have:=h j;unfold hZ at this ⊢;rw [List.getElem?_append_left a]
  by_cases e:j+1 < l.length
  ·rw [List.getElem?_append_left e];exact this
  ·rw [List.getElem?_append_right (by omega),show j+1 - l.length=0 by omega,Bool.and_eq_false_iff]
   exact .inr rfl
theorem Ll:gf (ax [])=([46],[]):=by kernel_rfl
theorem KY {p:List UInt8} {P:List (List UInt8)} (h:tT p):gf (ax (p::P))=(py p,ax P):=by
 unfold ax Ld;rw [List.map_cons,List.flatMap_cons,List.append_assoc];exact KK (Lg h) _
theorem Ly (p:List UInt8):py p≠[46]:=by
 unfold py
 split
 ·rename_i h
  cases p with
  | nil=>cases h
  | cons a p=>simp
 ·rename_i h
  intro e;rw [e] at h;exact h rfl
theorem Lc (p:List UInt8):(∃r,py p=46::r∧r=p)∨(py p=p∧p.head? ≠some 46):=by
 unfold py
 split
 ·exact .inl ⟨p,rfl,rfl⟩
 ·rename_i h
  refine .inr ⟨rfl,fun e=>h ?_⟩
  cases p with
  | nil=>cases e
  | cons a p=>
   injection e with e;rw [e];rfl
theorem KI (p:List UInt8) (P:List (List UInt8)):(py p).length+2+(ax P).length=(ax (p::P)).length:=by
 unfold ax Ld;rw [List.map_cons,List.flatMap_cons];simp only [List.length_append,List.length_cons,List.length_nil];omega
theorem Le {D:List (List UInt8)} (p:List UInt8):Lib.join (D++[p]) [13,10]=if D=[] then p else Lib.join D [13,10]++[13,10]++p:=by
 induction D with
 | nil=>rw [List.nil_append,Lib.join_one,if_pos rfl]
 | cons d D ih=>
  rw [if_neg (by simp),List.cons_append,pa d _ (by simp),ih]
  split
  ·rename_i e;rw [e,Lib.join_one]
  ·rename_i e;rw [pa d _ e];simp only [List.append_assoc]
theorem KQ:∀(D P:List (List UInt8)),(Lib.join D [13,10]).length≤(Lib.join (D++P) [13,10]).length
 | [],P=>by rw [Lib.join_nil];exact Nat.zero_le _
 | [d],P=>by
  rw [Lib.join_one,List.singleton_append,Lib.join_cons,List.length_append];exact Nat.le_add_right _ _
 | d::e::D,P=>by
  have h:=KQ (e::D) P;rw [pa d _ (by simp),List.cons_append,pa d _ (by simp)];simp only [List.length_append] at h ⊢;omega
end Go.Proofs.YtofpegbpgkkgkaaGreatDoor
