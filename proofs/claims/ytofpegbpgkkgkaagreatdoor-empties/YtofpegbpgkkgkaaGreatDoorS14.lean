import Derived.Lib.DecodeN
import Derived.Test.YtofpegbpgkkgkaaGreatDoorS09
import Derived.Test.YtofpegbpgkkgkaaGreatDoorS13
namespace Go.Proofs.YtofpegbpgkkgkaaGreatDoor
set_option maxHeartbeats 8000000
set_option maxRecDepth 1000000
open Go.RowKit
def tD (b:UInt8):Bool:=decide (b.toNat=0) || decide (b.toNat=10) || decide (b.toNat=13) || decide (126 < b.toNat)
def tE (x:Nat):Bool:=decide (x=0) || decide (x=10) || decide (x=13) || decide (126 < x)
theorem yT (n a b c d:Nat) (h:128≤a):126 < (Lib.decodeN n a b c d).1:=by
 unfold Lib.decodeN;rw [if_neg (by omega)]
 split
 ·split <;> simp only [] <;> omega
 ·split
  ·split <;> simp only [] <;> omega
  ·split
   ·split <;> simp only [] <;> omega
   ·simp
theorem CA (s:ByteArray) (i:Nat) (h:(s.get! i).toNat < 128):Utf8.decode s i=((s.get! i).toNat,1):=by
 rw [Lib.decode_at];unfold Lib.decodeN;rw [if_pos h]
theorem Ax (s:ByteArray) (i:Nat) (h:128≤(s.get! i).toNat):tE (Utf8.decode s i).1=true:=by
 rw [Lib.decode_at];have:=yT (s.size - i) (s.get! i).toNat (s.get! (i+1)).toNat (s.get! (i+2)).toNat (s.get! (i+3)).toNat h;unfold tE;rw [decide_eq_true this,Bool.or_true]
theorem AF (l:List UInt8) (j:Nat) (h:j < l.length):(bs l).get! j=l[j]:=by
 show (bs l).data[j]! =_;have:j < (bs l).data.size:=by have:=aG l;exact (by show j < (bs l).size;omega)
 rw [getElem!_pos (bs l).data j this];simp [bs]
theorem Ej (l:List UInt8):∀(f a:Nat),a≤l.length→l.length≤a+f→(0≤Lib.idxFuncFrom tE true (bs l) f a ↔ (l.drop a).any tD=true)
 | 0,a,h1,h2=>by
  have:a=l.length:=by omega
  subst this;simp [Lib.idxFuncFrom]
 | f+1,a,h1,h2=>by
  have i:=aG l;unfold Lib.idxFuncFrom
  by_cases h:a < l.length
  ·rw [if_pos (by omega)];have e:l.drop a=l[a]::l.drop (a+1):=List.drop_eq_getElem_cons h;have g:=AF l a h
   by_cases b:((bs l).get! a).toNat < 128
   ·rw [CA _ _ b,g];have c:tE l[a].toNat=tD l[a]:=rfl;simp only [];rw [e,List.any_cons,c]
    cases d:tD l[a] with
    | true=>simp
    | false=>
     rw [if_neg (by simp),Bool.false_or];exact Ej l f (a+1) (by omega) (by omega)
   ·have:=Ax (bs l) a (by omega);rw [if_pos this,e,List.any_cons]
    have d:tD l[a]=true:=by
     rw [g] at b;unfold tD;rw [decide_eq_true (show 126 < l[a].toNat by omega),Bool.or_true]
    rw [d,Bool.true_or];exact ⟨fun _=>rfl,fun _=>by omega⟩
  ·have:a=l.length:=by omega
   subst this;rw [if_neg (by omega)];simp
theorem Fa (x:Nat) (w:World) (j:x≤1114111):Calls Tryz.prog 138 #[.int .i32 (x:Int)] w fun e f=>e= .returned (.bool (tE x))∧Below w.heap.size w f:=by
 unfold tE
 by_cases a:x=0
 ·subst a;go_enter Tryz.func138,Tryz.ntmps138;go_wp2_with fail
  go_ret;exact ⟨rfl,Below.refl _ _⟩
 ·by_cases b:x=10
  ·subst b;go_enter Tryz.func138,Tryz.ntmps138;go_wp2_with fail
   go_ret;exact ⟨rfl,Below.refl _ _⟩
  ·by_cases c:x=13
   ·subst c;go_enter Tryz.func138,Tryz.ntmps138;go_wp2_with fail
    go_ret;exact ⟨rfl,Below.refl _ _⟩
   ·rw [decide_eq_false a,decide_eq_false b,decide_eq_false c];have g:((x:Int) == 0)=false:=by rw [beq_eq_false_iff_ne];omega
    have h:((x:Int) == 10)=false:=by rw [beq_eq_false_iff_ne];omega
    have i:((x:Int) == 13)=false:=by rw [beq_eq_false_iff_ne];omega
    have d:decide (126 < x)=decide ((126:Int) < (x:Int)):=by
     rw [Bool.eq_iff_iff,decide_eq_true_eq,decide_eq_true_eq];omega
    rw [d];clear a b c d;go_enter Tryz.func138,Tryz.ntmps138;go_wp2_with fail
    go_ret;exact ⟨rfl,Below.refl _ _⟩
def qF (w:World) (g:Nat) (l:List UInt8):Prop:=∀j,j < l.length→w.cell? ⟨g,j,none⟩=some (.int .u8 ((l.getD j 0).toNat:Int))
theorem qF.below {w b:World} {g:Nat} {l:List UInt8} (h:qF w g l) (c:Below w.heap.size w b):qF b g l:=fun j a=>(c.cell (aC (h j a))).trans (h j a)
theorem qF.string {w:World} {g cap:Nat} {l:List UInt8} (h:qF w g l):(convert 114 9 (.slice (some ⟨g,0,none⟩) l.length cap)).run Tryz.prog w= .ok (.string (bs l)) w:=oP w g cap l.length l rfl h
theorem qF.at {w:World} {g:Nat} {l:List UInt8} (h:qF w g l):BytesAt (bs l) g 0 w:=fun j b=>by
 have a:j < l.length:=by have:=aG l;omega
 rw [Nat.zero_add,h j a,AF l j a,List.getD_eq_getElem?_getD,List.getElem?_eq_getElem a];rfl
theorem oO (l:List UInt8) (g a:Nat) (w:World) (h:qF w g l) (d:l.length≤a) (m:l.length≤1048576) (i:Lib.Utf8Tabs 2 3 w):
  Calls Tryz.prog 232 #[.slice (some ⟨g,0,none⟩) l.length a,.func (.func 138) #[] #[],.bool true] w fun e k=>e= .returned (.int .i64 (Lib.idxFunc tE true (bs l)))∧Below w.heap.size w k:=by
 have f:=aG l;have c:=Any7.bytes_indexFunc (P:=Tryz.prog) Tryz.lays755 138 #[] (fun b w=>enters_of Tryz.func138 rfl rfl b w) tE true (bs l) g 0 a w (by omega) (by omega) h.at i (fun W x j _=>Fa x W j);rw [f] at c;exact c
theorem su (l:List UInt8) (g a:Nat) (w:World) (h:qF w g l) (b:l.length≤a) (o:l.length≤1048576) (f:Lib.Utf8Tabs 2 3 w):
  Calls Tryz.prog 137 #[.slice (some ⟨g,0,none⟩) l.length a,.func (.func 138) #[] #[]] w fun e i=>e= .returned (.bool (l.any tD))∧Below w.heap.size w i:=by
 have j:=Lib.hid (oO l g a w h b o f)
 have c:Calls Tryz.prog 193 #[.slice (some ⟨g,0,none⟩) l.length a,.func (.func 138) #[] #[]] w fun e i=>e= .returned (.int .i64 (Lib.idxFunc tE true (bs l)))∧Below w.heap.size w i:=by
  clear h f;go_enter Tryz.func193,Tryz.ntmps193;go_wp2_with fail
  refine j.out.mono ?_;rintro e p ⟨rfl,d⟩;go_wp2_with fail
  go_ret;exact ⟨rfl,d⟩
 have k:Hid (l.any tD=decide (0≤Lib.idxFunc tE true (bs l))):=Lib.hid (by
  have:=Ej l l.length 0 (by omega) (by omega);rw [List.drop_zero] at this;rw [Bool.eq_iff_iff,decide_eq_true_eq,←this];unfold Lib.idxFunc
  rw [aG])
 obtain ⟨r,m⟩:∃r,Lib.idxFunc tE true (bs l)=r:=⟨_,rfl⟩;rw [m] at c k;have n:=Lib.hid c;clear h f c j m;go_enter Tryz.func137,Tryz.ntmps137;go_wp2_with fail
 refine n.out.mono ?_;rintro e p ⟨rfl,d⟩;go_wp2_with fail
 go_ret;exact ⟨by rw [k.out];rfl,d⟩
theorem qC {c:World} {k:Nat} {a b x y:Value} {t:TypeId} (h:c.heap[k]? =some (.cells #[a,b] t (0,0))):((c.setCell ⟨k,0,none⟩ x).setCell ⟨k,1,none⟩ y).cell? ⟨k,0,none⟩=some x∧((c.setCell ⟨k,0,none⟩ x).setCell ⟨k,1,none⟩ y).cell? ⟨k,1,none⟩=some y∧aL k c ((c.setCell ⟨k,0,none⟩ x).setCell ⟨k,1,none⟩ y):=by
 have e:=heap_setCell_same c k 0 _ _ x h;have d:=heap_setCell_same _ k 1 _ _ y e;exact ⟨by rw [Lib.cell_of_heap d];rfl,by rw [Lib.cell_of_heap d];rfl,((aL.refl _ _).setCell _).setCell _⟩
def jw (l:List UInt8):List UInt8×Bool:=if 100 < l.length || l.any tD then ([],true) else (l,false)
theorem AY (l:List UInt8) (g c:Nat) (w:World) (h:qF w g l) (t:l.length≤c) (L:l.length≤1048576) (z:Lib.Utf8Tabs 2 3 w):
  Calls Tryz.prog 99 #[.slice (some ⟨g,0,none⟩) l.length c] w fun e M=>e= .returned (.agg #[.string (bs (jw l).1),.bool (jw l).2])∧Below w.heap.size w M:=by
 obtain ⟨s,i⟩:∃s:World,w.alloc (.cells #[.string ⟨#[]⟩,.bool false] 138)=s:=⟨_,rfl⟩;have n:Below w.heap.size w s:=by rw [←i];exact (Below.refl _ _).alloc (Nat.le_refl _) _
 have F:s.heap[w.heap.size]? =some (.cells #[.string ⟨#[]⟩,.bool false] 138 (0,0)):=by rw [←i];exact heap_alloc_new w _
 have o:=Lib.hid (su l g c s (h.below n) t L (Utf8Tabs_below z n));have G:=Lib.hid (h.below n);have f:=Lib.hid n;have r:=Lib.hid F;have q:=Lib.hid i;clear i n F
 by_cases d:100 < l.length
 ·have p:Hid (jw l=([],true)):=Lib.hid (by unfold jw;rw [decide_eq_true d];rfl);have K:(100:Int) < (l.length:Int):=by omega
  clear h z o;go_enter Tryz.func99,Tryz.ntmps99;go_wp2_with fail
  have X:=heap_alloc_new w (.cells #[.string ⟨#[]⟩,.bool true] 138);have A:(w.alloc (.cells #[.string ⟨#[]⟩,.bool true] 138)).cell? ⟨w.heap.size,0,none⟩=some (.string ⟨#[]⟩):=by rw [Lib.cell_of_heap X];rfl
  have B:(w.alloc (.cells #[.string ⟨#[]⟩,.bool true] 138)).cell? ⟨w.heap.size,1,none⟩=some (.bool true):=by rw [Lib.cell_of_heap X];rfl
  refine bodyPost_ret (v:= .agg #[.string ⟨#[]⟩,.bool true]) (by simp [results,Tryz.results99,go_sem,A,B]) rfl ?_;exact ⟨by rw [p.out];rfl,(Below.refl _ _).alloc (Nat.le_refl _) _⟩
 ·have K:¬(100:Int) < (l.length:Int):=by omega
  cases m:l.any tD with
  | true=>
   have p:Hid (jw l=([],true)):=Lib.hid (by unfold jw;rw [m,Bool.or_true];rfl);rw [m] at o;clear h z m;go_enter Tryz.func99,Tryz.ntmps99;go_wp2_with fail
   rw [q.out];refine o.out.mono ?_;rintro e u ⟨rfl,a⟩;have b:=ae a r.out;have A:u.cell? ⟨w.heap.size,0,none⟩=some (.string ⟨#[]⟩):=by rw [Lib.cell_of_heap b];rfl
   have B:u.cell? ⟨w.heap.size,1,none⟩=some (.bool false):=by rw [Lib.cell_of_heap b];rfl
   have H:=Lib.frozen_of_heap b 0;have I:=Lib.frozen_of_heap b 1;have k:=Lib.hid b;have j:=Lib.hid (f.out.trans (a.mono f.out.size));clear b a;go_wp2_with fail
   obtain ⟨C,D,E⟩:=qC (x:= .string ⟨#[]⟩) (y:= .bool true) k.out;refine bodyPost_ret (v:= .agg #[.string ⟨#[]⟩,.bool true]) (by simp [results,Tryz.results99,go_sem,C,D]) rfl ?_;exact ⟨by rw [p.out];rfl,j.out.trans (E.below (Nat.le_refl _))⟩
  | false=>
   have p:Hid (jw l=(l,false)):=Lib.hid (by unfold jw;rw [m,decide_eq_false d];rfl);rw [m] at o;clear h z m;go_enter Tryz.func99,Tryz.ntmps99;go_wp2_with fail
   rw [q.out];refine o.out.mono ?_;rintro e u ⟨rfl,a⟩;have J:=(G.out.below a).string (cap:=c);have b:=ae a r.out;have A:u.cell? ⟨w.heap.size,0,none⟩=some (.string ⟨#[]⟩):=by rw [Lib.cell_of_heap b];rfl
   have B:u.cell? ⟨w.heap.size,1,none⟩=some (.bool false):=by rw [Lib.cell_of_heap b];rfl
   have H:=Lib.frozen_of_heap b 0;have I:=Lib.frozen_of_heap b 1;have k:=Lib.hid b;have j:=Lib.hid (f.out.trans (a.mono f.out.size));clear b a;go_wp2_with fail
   obtain ⟨C,D,E⟩:=qC (x:= .string (bs l)) (y:= .bool false) k.out;refine bodyPost_ret (v:= .agg #[.string (bs l),.bool false]) (by simp [results,Tryz.results99,go_sem,C,D]) rfl ?_;exact ⟨by rw [p.out],j.out.trans (E.below (Nat.le_refl _))⟩
theorem kO (c:UInt8):(65≤c.toNat∧c.toNat≤90∧(Lib.lowerB c).toNat=c.toNat+32)∨(¬(65≤c.toNat∧c.toNat≤90)∧Lib.lowerB c=c):=by
 unfold Lib.lowerB Lib.isUpperB
 by_cases h:65≤c.toNat∧c.toNat≤90
 ·left
  have a:(decide ((65:UInt8)≤c) && decide (c≤90))=true:=by
   simp only [Bool.and_eq_true,decide_eq_true_eq,UInt8.le_iff_toNat_le,UInt8.reduceToNat];exact h
  rw [if_pos a,UInt8.toNat_add];simp only [UInt8.reduceToNat];omega
 ·right
  have a:¬(decide ((65:UInt8)≤c) && decide (c≤90))=true:=by
   simp only [Bool.and_eq_true,decide_eq_true_eq,UInt8.le_iff_toNat_le,UInt8.reduceToNat];exact h
  rw [if_neg a];exact ⟨h,rfl⟩
theorem Ho (c:UInt8):Gk (Lib.lowerB c)=Gk c:=by
 rcases kO c with ⟨b,d,a⟩ | ⟨_,h⟩
 ·unfold Gk Fj ix;rw [a];rw [Bool.eq_iff_iff];simp only [Bool.or_eq_true,Bool.and_eq_true,decide_eq_true_eq];omega
 ·rw [h]
theorem uI (c d:UInt8) (j:d.toNat < 65):(Lib.lowerB c == d)=(c == d):=by
 rcases kO c with ⟨a,i,b⟩ | ⟨_,h⟩
 ·have f:(Lib.lowerB c == d)=false:=by rw [beq_eq_false_iff_ne];intro e;rw [e] at b;omega
  have g:(c == d)=false:=by rw [beq_eq_false_iff_ne];intro e;rw [e] at a;omega
  rw [f,g]
 ·rw [h]
theorem C8 (c:UInt8):Lib.lowerB (Lib.lowerB c)=Lib.lowerB c:=by
 rcases kO c with ⟨a,b,d⟩ | ⟨_,h⟩
 ·rcases kO (Lib.lowerB c) with ⟨g1,g2,_⟩ | ⟨_,g⟩
  ·omega
  ·exact g
 ·rw [h,h]
theorem Bc (l:List UInt8):Lib.toLowerA (Lib.toLowerA l)=Lib.toLowerA l:=by
 unfold Lib.toLowerA;rw [List.map_map];apply List.map_congr_left;intro c _;exact C8 c
theorem uH (l:List UInt8):(Lib.toLowerA l).length=l.length:=by simp [Lib.toLowerA]
theorem rK (l:List UInt8) (i:Nat) (d:UInt8) (a:d.toNat < 65) (_:d≠0):((Lib.toLowerA l).getD i 0 == d)=(l.getD i 0 == d):=by
 unfold Lib.toLowerA;rw [List.getD_eq_getElem?_getD,List.getD_eq_getElem?_getD,List.getElem?_map]
 cases l[i]? with
 | none=>rfl
 | some c=>exact uI c d a
theorem CS (l:List UInt8):ux (Lib.toLowerA l)=ux l:=by
 unfold ux;rw [uH,rK l 0 45 (by decide) (by decide),rK l (l.length - 1) 45 (by decide) (by decide)]
 congr 1
 unfold Lib.toLowerA;rw [List.all_map]
 congr 1
 funext c
 simp only [Function.comp];rw [Ho,uI c 45 (by decide)]
theorem FF (c:UInt8) (l:List UInt8):du c l≠[]:=by
 cases l with
 | nil=>simp [du]
 | cons b r=>unfold du;split <;> simp
theorem qo:∀l:List UInt8,du 46 (Lib.toLowerA l)=(du 46 l).map Lib.toLowerA
 | []=>rfl
 | b::r=>by
  have c:=qo r;have e:Lib.toLowerA (b::r)=Lib.lowerB b::Lib.toLowerA r:=rfl
  have a:Lib.lowerB b=46 ↔ b=46:=by
   have:=uI b 46 (by decide);rw [Bool.eq_iff_iff,beq_iff_eq,beq_iff_eq] at this;exact this
  rw [e];unfold du
  by_cases h:b=46
  ·rw [if_pos (a.2 h),if_pos h,c];rfl
  ·rw [if_neg (fun x=>h (a.1 x)),if_neg h,c];obtain ⟨p,f,d⟩:=List.exists_cons_of_ne_nil (FF 46 r);rw [d];rfl
theorem CB (l:List UInt8):Az (Lib.toLowerA l)=Az l:=by
 unfold Az;rw [qo,uH,List.all_map]
 congr 1
 ·congr 2
  cases l <;> rfl
 ·congr 1
  funext p
  exact CS p
theorem JV {l x:List UInt8} (c:∀a∈x,a≠64):cz 64 (x++64::l)=(x,l,true):=by
 induction x with
 | nil=>simp [cz]
 | cons a x ih=>
  have d:=c a (List.mem_cons_self ..);have:=ih (fun b e=>c b (List.mem_cons_of_mem _ e));simp only [List.cons_append];unfold cz;rw [this];simp [d]
theorem qI {l:List UInt8} (h:(jb l).2=true):dH (dY l)=true:=by
 have g:dY l=(fq l).1++64::(fq l).2.1:=by unfold dY;rw [h];rfl
 have d:(fq l).2.2=true:=h
 have j:p8 (cz 64 l).1=true∧jj (cz 64 l).2.1=true∧fq l=((cz 64 l).1,Lib.toLowerA (cz 64 l).2.1,true):=by
  unfold fq at d ⊢
  split at d
  ·rename_i b
   rw [Bool.and_eq_true] at b;exact ⟨b.1,b.2,by rw [if_pos (by rw [b.1,b.2];rfl)]⟩
  ·cases d
 obtain ⟨c,m,i⟩:=j
 have f:∀a∈(cz 64 l).1,a≠64:=by
  intro a n e;subst e;unfold p8 at c;rw [Bool.and_eq_true] at c;have:=List.all_eq_true.1 c.2 64 n
  revert this
  decide
 have k:fq (dY l)=((cz 64 l).1,Lib.toLowerA (cz 64 l).2.1,true):=by
  rw [g,i];simp only;unfold fq;rw [JV f];simp only;rw [c,yU,CB,←yU,m,Bc];rfl
 unfold dH jb;rw [k,g,i];simp
theorem jg {l:List Nat} (h:l.Pairwise (·< ·)):bF l=true:=by
 unfold bF lh;rw [List.all_eq_true];intro k a;have a:=List.mem_range.1 a
 by_cases e:k=0
 ·rw [decide_eq_true e];rfl
 ·rw [Bool.or_eq_true]
  right
  rw [decide_eq_true_eq,List.getD_eq_getElem?_getD,List.getD_eq_getElem?_getD,List.getElem?_eq_getElem a,List.getElem?_eq_getElem (show k - 1 < l.length by omega)];exact (List.pairwise_iff_getElem.1 h) (k - 1) k (by omega) a (by omega)
theorem Dd {S:aa} {i:Nat} {a:List Nat} (b:i∈S.live) (c:1≤a.length) (h:∀x∈a,x∈(S.stayOf i).map (·.1)):bt S (i+1) a=true:=by
 rw [db c,Bool.and_eq_true,decide_eq_true_eq,Nat.add_sub_cancel,List.all_eq_true];refine ⟨⟨by omega,b⟩,fun x f=>?_⟩
 obtain ⟨r,d,e⟩:=List.mem_map.1 (h x f);exact List.any_eq_true.2 ⟨r,d,by simpa using e⟩
structure DY (i:Nat) (S S':aa):Prop where
 len:S.items.length≤S'.items.length
 time:S'.time=S.time
 mail:∀j,j < S.items.length→S'.mailOf j=S.mailOf j
 stay:∀j,j < S.items.length→j≠i→S'.stayOf j=S.stayOf j
theorem DY.refl (i:Nat) (S:aa):DY i S S:=⟨Nat.le_refl _,rfl,fun _ _=>rfl,fun _ _ _=>rfl⟩
theorem DY.trans {i:Nat} {S d a:aa} (h:DY i S d) (c:DY i d a):DY i S a:=
 ⟨Nat.le_trans h.len c.len,c.time.trans h.time,fun j b=>(c.mail j (Nat.lt_of_lt_of_le b h.len)).trans (h.mail j b),fun j b e=>(c.stay j (Nat.lt_of_lt_of_le b h.len) e).trans (h.stay j b e)⟩
theorem uT (S:aa) (i:Nat) (a:List Nat):DY i S (S.outs i a):=⟨by rw [bL];exact Nat.le_refl _,rfl,fun j _=>ez S i a j,fun j _ b=>il b⟩
theorem Il (i:Nat) (S:aa) (m:aX) (b:m.time=S.time):DY i S (S.plus m):=⟨by rw [dv];omega,b,fun j a=>je a,fun j a _=>jU a⟩
def xu (m:aX):Prop:=m.frm=[]∧m.tos.length=1∧∃N,N≠[]∧m.body=fY N
theorem CE {S:aa} {i:Nat} {a:List Nat} (b:S.Ok) (A:S.items.length < 4294967295) (y:S.time≤1000000000) (x:1≤a.length) (p:bF a=true) (n:bt S (i+1) a=true):
  ∃d,S.takesF S.time (i+1) a=some d∧d.Ok∧DY i S d∧(i < S.items.length∧d.stayOf i=bM (S.stayOf i) a)∧∀j,S.items.length≤j→j < d.items.length→xu (d.mailOf j):=by
 have h:=kf p n (Nat.le_refl S.time);have k:=jS p n;have f:=n;rw [db x,Bool.and_eq_true,decide_eq_true_eq,Nat.add_sub_cancel] at f;obtain ⟨⟨_,w⟩,z⟩:=f;have c:=bq w;rw [Nat.add_sub_cancel] at h k;have r:(aa.outs ⟨S.items,S.time⟩ i a)=S.outs i a:=rfl;rw [r] at h;have q:dQ (S.mailOf i):=by rw [cd c];exact (b.sz _ (List.getElem_mem c)).1
 by_cases o:(S.mailOf i).frm=[]
 ·refine ⟨_,h.1 o,b.outs i a,uT S i a,⟨c,jc c⟩,fun j s l=>?_⟩;rw [bL] at l;omega
 ·have m:∀t∈dx (S.stayOf i) a,t.length≤255:=by
   intro t g;rw [k,List.mem_map] at g;obtain ⟨j,_,rfl⟩:=g;exact nQ q.2.2.2.2.1 j
  have u:(dx (S.stayOf i) a).length≤10:=by have:=mV (S.stayOf i) a;have:=dk b i;omega
  have v:=lX _ m;refine ⟨_,h.2 o,(b.outs i a).plus (by rw [bL]) ⟨by show S.items.length+1≤_;omega,by show S.time≤_;omega,by simp,by simp,fun t g=>by simp at g;rw [g];exact q.2.2.1,by show (fY _).length≤_;omega⟩ (by simp) (by simp),(uT S i a).trans (Il i _ _ rfl),⟨c,?_⟩,fun j s l=>?_⟩
  ·rw [jU (by rw [bL];exact c),jc c]
  ·rw [dv,bL] at l;obtain rfl:j=(S.outs i a).items.length:=by rw [bL];omega
   rw [dN];refine ⟨rfl,rfl,_,?_,rfl⟩;rw [k];intro e;have:=congrArg List.length e;rw [List.length_map,List.length_nil] at this;omega
def i7 (x:aa×List UInt8) (i:Nat) (ps:List Nat):aa×List UInt8:=if ps=[] then x else (x.1.outs i ps,x.2++bJ (71::aM (i+1) ps))
def jr (x:aa×List UInt8) (i:Nat) (ps:List Nat):aa×List UInt8:=if ps=[] then x else ((x.1.takesF x.1.time (i+1) ps).getD x.1,x.2++bJ (70::(az 4 x.1.time++aM (i+1) ps)))
def kR (x:aa×List UInt8) (i:Nat) (gs fs:List Nat):aa×List UInt8:=jr (i7 x i gs) i fs
structure oK (x:aa×List UInt8):Prop where
 ok:x.1.Ok
 led:zP x.1 x.2
 time:x.1.time≤1000000000
structure Left (x y:aa×List UInt8) (i:Nat) (ps:List Nat):Prop where
 ok:oK y
 aft:DY i x.1 y.1
 stay:y.1.stayOf i=bM (x.1.stayOf i) ps
 new:∀j,x.1.items.length≤j→j < y.1.items.length→xu (y.1.mailOf j)
theorem BO (l:List (Nat×List UInt8)):bM l []=l:=by unfold bM;simp
theorem Left.none {x:aa×List UInt8} (h:oK x) (i:Nat):Left x x i []:=⟨h,DY.refl _ _,(BO _).symm,fun j a b=>by omega⟩
theorem EX {x:aa×List UInt8} (h:oK x) {i:Nat} {a:List Nat} (c:a.length≤100) (b:a≠[]→bt x.1 (i+1) a=true):Left x (i7 x i a) i a:=by
 unfold i7
 split
 ·rename_i e;subst e;exact Left.none h i
 ·rename_i e
  have f:1≤a.length:=List.length_pos_iff.2 e;have b:=b e;have g:=Bu f b;rw [Nat.add_sub_cancel] at g;have k:1≤(if (x.1.mailOf i).frm=[] then 1 else 2):=by split <;> omega
  have m:=bL x.1 i a;rw [db f,Bool.and_eq_true,decide_eq_true_eq,Nat.add_sub_cancel] at b
  exact ⟨⟨h.ok.outs i a,h.led.less (by show (x.1.outs i a).pot+1≤_;omega) (by show (x.1.outs i a).items.length+(x.1.outs i a).pot≤_;omega) (pM (T:=0) c).1,h.time⟩,uT _ _ _,jc (bq b.1.2),fun j l d=>by
   have d:j < (x.1.outs i a).items.length:=d
   omega⟩
theorem nP {x:aa×List UInt8} (h:oK x) {i:Nat} {a:List Nat} (b:a.length≤100) (o:bF a=true) (n:a≠[]→bt x.1 (i+1) a=true):Left x (jr x i a) i a∧(a≠[]→x.1.takesF x.1.time (i+1) a=some (jr x i a).1):=by
 unfold jr
 split
 ·rename_i e;subst e;exact ⟨Left.none h i,fun e=>absurd rfl e⟩
 ·rename_i e
  have f:1≤a.length:=List.length_pos_iff.2 e;obtain ⟨j,c,k,d,l,m⟩:=CE h.ok (by have:=h.led.items;omega) h.time f o (n e);have g:=ya f c;rw [c,Option.getD_some];exact ⟨⟨⟨k,h.led.less g.1 g.2.1 (pM b).2,by show j.time≤_;rw [d.time];exact h.time⟩,d,l.2,m⟩,fun _=>rfl⟩
theorem kS {x:aa×List UInt8} (h:oK x) {i:Nat} {gs fs:List Nat} (s:i∈x.1.live) (d:gs.length≤100) (c:fs.length≤100) (f:bF fs=true) (q:∀p∈gs,p∈(x.1.stayOf i).map (·.1)) (o:∀p∈fs,p∈(x.1.stayOf i).map (·.1)) (n:∀p∈gs,p ∉ fs):
  (gs≠[]→bt x.1 (i+1) gs=true)∧Left x (i7 x i gs) i gs∧(fs≠[]→bt (i7 x i gs).1 (i+1) fs=true)∧Left (i7 x i gs) (kR x i gs fs) i fs∧(fs≠[]→(i7 x i gs).1.takesF (i7 x i gs).1.time (i+1) fs=some (kR x i gs fs).1):=by
 have k:gs≠[]→bt x.1 (i+1) gs=true:=fun e=>Dd s (List.length_pos_iff.2 e) q;have g:=EX h d k
 have m:fs≠[]→bt (i7 x i gs).1 (i+1) fs=true:=fun e=>by
  have j:∀p∈fs,p∈((i7 x i gs).1.stayOf i).map (·.1):=fun p b=>by
   rw [g.stay];obtain ⟨r,f,e⟩:=List.mem_map.1 (o p b);refine List.mem_map.2 ⟨r,List.mem_filter.2 ⟨f,?_⟩,e⟩;rw [Bool.not_eq_true',←Bool.not_eq_true];intro a;rw [e] at a;exact n p (List.contains_iff_mem.1 a) b
  refine Dd (zo fun a=>?_) (List.length_pos_iff.2 e) j
  obtain ⟨p,b⟩:∃p,p∈fs:=by
   cases fs with
   | nil=>exact absurd rfl e
   | cons p l=>exact ⟨p,by simp⟩
  have:=j p b;rw [a] at this
  cases this
 obtain ⟨t,u⟩:=nP g.ok c f m;exact ⟨k,g,m,t,u⟩
structure iB (S S':aa):Prop where
 len:S.items.length≤S'.items.length
 mail:∀j,j < S.items.length→S'.mailOf j=S.mailOf j
 stay:∀j,j < S.items.length→∀r∈S'.stayOf j,r∈S.stayOf j
 new:∀j,S.items.length≤j→j < S'.items.length→xu (S'.mailOf j)
theorem iB.refl (S:aa):iB S S:=⟨Nat.le_refl _,fun _ _=>rfl,fun _ _ _ h=>h,fun _ a b=>by omega⟩
theorem iB.trans {S d a:aa} (h:iB S d) (b:iB d a):iB S a:=
 ⟨Nat.le_trans h.len b.len,fun j c=>(b.mail j (Nat.lt_of_lt_of_le c h.len)).trans (h.mail j c),fun j c r i=>h.stay j c r (b.stay j (Nat.lt_of_lt_of_le c h.len) r i),fun j f g=>by
  by_cases e:j < d.items.length
  ·rw [b.mail j e];exact h.new j f e
  ·exact b.new j (by omega) g⟩
theorem Left.later {x y:aa×List UInt8} {i:Nat} {c:List Nat} (h:Left x y i c):iB x.1 y.1:=
 ⟨h.aft.len,h.aft.mail,fun j b r a=>by
  by_cases e:j=i
  ·subst e;rw [h.stay] at a;exact (List.mem_filter.1 a).1
  ·rw [h.aft.stay j b e] at a
   exact a,h.new⟩
theorem CY (S:aa) (T:Nat):iB S ⟨S.items,T⟩:=⟨Nat.le_refl _,fun _ _=>rfl,fun _ _ _ h=>h,fun j h1 (a:j < S.items.length)=>by omega⟩
theorem rX (a:List (List UInt8)) (o:List Bool):((stay a o).map (·.1)).Pairwise (·< ·):=by
 unfold stay;rw [List.map_map];have:((fun r:Nat×List UInt8=>r.1) ∘ fun i=>(i,a.getD i []))=id:=rfl;rw [this,List.map_id];exact mz o _
theorem kE {S:aa} (h:S.Ok) (i:Nat):∀x∈(S.stayOf i).map (·.1),x≤255:=by
 intro x d;obtain ⟨r,a,rfl⟩:=List.mem_map.1 d
 rcases Nat.lt_or_ge i S.items.length with b | b
 ·rw [gT b] at a;unfold stay at a;obtain ⟨k,c,rfl⟩:=List.mem_map.1 a;unfold iW at c;have:=List.mem_range.1 (List.mem_filter.1 c).1;have:=h.sz S.items[i] (List.getElem_mem b);show k≤255;omega
 ·rw [rb b] at a;cases a
def kW (life:Int) (x:aa×List UInt8) (i:Nat):aa×List UInt8:=if life≤(x.1.time:Int) - ((x.1.mailOf i).time:Int) then jr x i ((x.1.stayOf i).map (·.1)) else x
def dw (life:Int) (x:aa×List UInt8) (l:List Nat):aa×List UInt8:=l.foldl (kW life) x
theorem pg (a:Int) (x:aa×List UInt8) (l:List Nat) (i:Nat):dw a x (l++[i])=kW a (dw a x l) i:=by unfold dw;rw [List.foldl_append];rfl
theorem ud {x:aa×List UInt8} (h:oK x) {i:Nat} (a:i∈x.1.live):((x.1.stayOf i).map (·.1)).length≤100∧bF ((x.1.stayOf i).map (·.1))=true∧((x.1.stayOf i).map (·.1)≠[]→bt x.1 (i+1) ((x.1.stayOf i).map (·.1))=true):=by
 refine ⟨by rw [List.length_map];have:=dk h.ok i;omega,jg (rX _ _),fun e=>Dd a (List.length_pos_iff.2 e) (fun p b=>b)⟩
theorem F5 {x:aa×List UInt8} (h:oK x) {i:Nat} (e:i∈x.1.live) (d:Int):oK (kW d x i)∧DY i x.1 (kW d x i).1∧iB x.1 (kW d x i).1:=by
 unfold kW
 split
 ·obtain ⟨a,b,c⟩:=ud h e;have:=(nP h a b c).1;exact ⟨this.ok,this.aft,this.later⟩
 ·exact ⟨h,DY.refl _ _,iB.refl _⟩
theorem Gj {S a:aa} {i j:Nat} (h:DY i S a) (b:j∈S.live) (d:j≠i):j∈a.live:=by
 have c:=bq b;refine zo ?_;rw [h.stay j c d];exact (jT.1 b).2
theorem lB {x:aa×List UInt8} (h:oK x) (d:Int) {l:List Nat} (q:∀i∈l,i∈x.1.live) (r:l.Nodup):∀k,k≤l.length→oK (dw d x (l.take k))∧(∀i∈l.drop k,i∈(dw d x (l.take k)).1.live)∧(dw d x (l.take k)).1.time=x.1.time∧iB x.1 (dw d x (l.take k)).1:=by
 intro k
 induction k with
 | zero=>exact fun _=>⟨h,fun i f=>q i f,rfl,iB.refl _⟩
 | succ k ih=>
  intro s;obtain ⟨n,g,o,p⟩:=ih (by omega);rw [List.take_succ_eq_append_getElem (by omega:k < l.length),pg];have m:l.drop k=l[k]::l.drop (k+1):=List.drop_eq_getElem_cons (by omega);rw [m] at g;obtain ⟨a,b,c⟩:=F5 n (g _ (List.mem_cons_self ..)) d;have j:(l[k]::l.drop (k+1)).Nodup:=by rw [←m];exact r.sublist (List.drop_sublist _ _)
  exact ⟨a,fun i f=>Gj b (g i (List.mem_cons_of_mem _ f)) (fun e=>(List.nodup_cons.1 j).1 (by rw [←e];exact f)),b.time.trans o,p.trans c⟩
end Go.Proofs.YtofpegbpgkkgkaaGreatDoor
