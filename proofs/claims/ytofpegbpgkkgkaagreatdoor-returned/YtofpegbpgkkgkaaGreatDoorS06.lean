import Derived.Test.YtofpegbpgkkgkaaGreatDoorS02
import Derived.Test.YtofpegbpgkkgkaaGreatDoorS03
import Derived.Lib.FrozenHead
namespace Go.Proofs.YtofpegbpgkkgkaaGreatDoor
set_option maxHeartbeats 8000000
set_option maxRecDepth 1000000
open Go.RowKit
theorem fE (s:ByteArray):s.data.toList.length=s.size:=by simp
def hZ (l:List UInt8) (k:Nat):Bool:=l[k]? == some 13 && l[k+1]? == some 10
def gf (l:List UInt8):List UInt8×List UInt8:=
 match (List.range l.length).find? (hZ l) with
 | some k=>(l.take k,l.drop (k+2))
 | none=>(l,[])
theorem yh {l:List UInt8} {k:Nat} (h:hZ l k=true) (c:∀j,j < k→hZ l j=false):gf l=(l.take k,l.drop (k+2)):=by
 have b:k < l.length:=by
  unfold hZ at h;rw [Bool.and_eq_true] at h
  by_cases e:k < l.length
  ·exact e
  ·rw [List.getElem?_eq_none (by omega)] at h
   cases h.1
 unfold gf;rw [List.find?_range_eq_some.2 ⟨h,List.mem_range.2 b,fun j a=>by rw [c j a];rfl⟩]
theorem FU {l:List UInt8} (a:∀j,hZ l j=false):gf l=(l,[]):=by
 unfold gf;rw [List.find?_range_eq_none.2 fun j _=>by rw [a j];rfl]
theorem GA {s:ByteArray} {k:Nat} (d:k < s.size) (e:k+1 < s.size) (a:(((s[k]).toNat:Int) == 13)=true) (c:(((s[k+1]).toNat:Int) == 10)=true):hZ s.data.toList k=true:=by
 unfold hZ;rw [mU s k d,mU s (k+1) e,yG (b:=13) rfl a,yG (b:=10) rfl c];rfl
theorem Gy {s:ByteArray} {k:Nat} (c:k < s.size) (a:(((s[k]).toNat:Int) == 13)=false):hZ s.data.toList k=false:=by
 unfold hZ;rw [mU s k c,Bool.and_eq_false_iff]
 left
 have:=yH (b:=13) rfl a;simpa using this
theorem Gz {s:ByteArray} {k:Nat} (c:k+1 < s.size) (a:(((s[k+1]).toNat:Int) == 10)=false):hZ s.data.toList k=false:=by
 unfold hZ;rw [mU s (k+1) c,Bool.and_eq_false_iff]
 right
 have:=yH (b:=10) rfl a;simpa using this
theorem Gx {s:ByteArray} {k:Nat} (h:¬k+1 < s.size):hZ s.data.toList k=false:=by
 unfold hZ;rw [Bool.and_eq_false_iff]
 right
 rw [List.getElem?_eq_none (by rw [fE];omega)];rfl
def pr (l:List UInt8) (w:World) (e:Ending) (w':World):Prop:=
 e= .returned (.tuple #[.string ⟨(gf l).1.toArray⟩,.string ⟨(gf l).2.toArray⟩])∧∃n,w'=w.drewN n
theorem pr.mk {l:List UInt8} {w:World} {e:Ending} {a:World} (x y:ByteArray) (c:e= .returned (.tuple #[.string x,.string y])) (b:gf l=(x.data.toList,y.data.toList)) (n:Nat) (d:a=w.drewN n):pr l w e a:=by
 refine ⟨?_,n,d⟩;rw [b,c]
theorem wO (s:ByteArray) (w:World) (n:s.size≤4294967296):
  Calls Tryz.prog 15 #[.string s] w (pr s.data.toList w):=by
 go_enter Tryz.func15,Tryz.ntmps15;go_wp2_with fail
 go_loop [4] (fun i=>∃k:Nat,k≤s.size∧i= .int .i64 k∧Hid (∀j:Nat,j < k→hZ s.data.toList j=false)) (fun i=>s.size - (intOf i).toNat)
 case atStart=>exact ⟨0,Nat.zero_le _,rfl,fun j l=>by omega⟩
 case round=>
  obtain ⟨k,m,rfl,f⟩:=hrel;have o:IntKind.i64.wrap ((k:Int)+1)=(k:Int)+1:=by rw [IntKind.wrap_i64];omega
  by_cases c:k+1 < s.size
  ·have a:k < s.size:=by omega
   have d:(k:Int)+1 < (s.size:Int):=by omega
   by_cases g:(((s[k]).toNat:Int) == 13)=true
   ·by_cases h:(((s[k+1]).toNat:Int) == 10)=true
    ·have b:=Lib.hid (GA a c g h);go_wp2_with fail
     go_region
     go_wp2_with fail
     go_ret2
     refine pr.mk _ _ rfl ?_ 1 rfl;rw [yh b.out f.out,Lib.extract_data,Lib.extract_to_end];rfl
    ·have h:=Bool.eq_false_iff.2 h;have b:=Lib.hid (Gz c h);go_wp2_with fail
     exact ⟨⟨k+1,by omega,by go_num,Lib.hid fun j l=>by
      by_cases e:j < k
      ·exact f.out j e
      ·obtain rfl:j=k:=by omega
       exact b.out⟩,by simp [intOf];omega⟩
   ·have g:=Bool.eq_false_iff.2 g;have b:=Lib.hid (Gy a g);go_wp2_with fail
    exact ⟨⟨k+1,by omega,by go_num,Lib.hid fun j l=>by
     by_cases e:j < k
     ·exact f.out j e
     ·obtain rfl:j=k:=by omega
      exact b.out⟩,by simp [intOf];omega⟩
  ·have d:¬(k:Int)+1 < (s.size:Int):=by omega
   go_wp2_with fail
   go_ret2
   refine pr.mk s ⟨#[]⟩ rfl (FU fun j=>?_) 0 rfl
   by_cases l:j < k
   ·exact f.out j l
   ·exact Gx (by omega)
def bu (l t:List UInt8):Bool:=decide (t.length≤l.length) && (Lib.toUpperA (l.take t.length) == t)
def ET (l:List UInt8):List UInt8:=(cz 64 l).2.1
def mH (n:Nat) (c:UInt8):Nat:=if 48≤c.toNat∧c.toNat≤57 then 10 * n+(c.toNat - 48) else n
def kB (l:List UInt8):Nat:=(l.drop 4).foldl mH 0
def iW (out:List Bool) (k:Nat):List Nat:=(List.range k).filter fun i=> !(out.getD i false)
theorem uF (a:List Bool) (k:Nat):(iW a k).length≤k:=by
 unfold iW;have:=List.length_filter_le (fun i=> !(a.getD i false)) (List.range k);simpa using this
structure jE (base:Nat) (w:World) (b:Nat) (v:Value) (acc:List UInt8):Prop where
 blk:∃p,(p=none∨p=some ⟨b,0,none⟩)∧w.heap[b]? =some (.cells #[.pointer p,v] 133 (0,0))
 row:w.ownsRowF base 5 1 v acc.length (Lib.byteCells acc)
 far:v.ownBlock≠some b
theorem wC (b:Nat) (v:Value) (p:Option Addr) (w:World) (c:p=none∨p=some ⟨b,0,none⟩) (h:w.heap[b]? =some (.cells #[.pointer p,v] 133 (0,0))):
  Calls Tryz.prog 135 #[.pointer (some ⟨b,0,none⟩)] w fun e a=>e= .returned (.tuple #[])∧a.heap[b]? =some (.cells #[.pointer (some ⟨b,0,none⟩),v] 133 (0,0))∧aL b w a:=by
 rcases c with rfl | rfl
 ·refine (Any.Builder_copyCheck_fresh (P:=Tryz.prog) {Tryz.lays159 with} Tryz.Builder_Extra_159.toX72 b w (by rw [Lib.cell_of_heap h];rfl) (by simp only [World.shape?,h];rfl) (Lib.frozen_of_heap h 0)).mono ?_;rintro e a ⟨rfl,rfl⟩;exact ⟨rfl,heap_setCell_same w b 0 _ _ _ h,(aL.refl _ _).setCell _⟩
 ·refine (Any.Builder_copyCheck_used (P:=Tryz.prog) {Tryz.lays159 with} Tryz.Builder_Extra_159.toX72 b w (by rw [Lib.cell_of_heap h];rfl)).mono ?_;rintro e a ⟨rfl,rfl⟩;exact ⟨rfl,h,aL.refl _ _⟩
theorem FN {w:World} {a d f n:Nat} {e:TypeId} {v:Value} {i:List Value} (h:w.ownsRowF a e f v n i) (m:d≤a):w.ownsRowF d e f v n i:=by
 refine ⟨h.1,?_⟩
 rcases h.2 with h | ⟨g,b,c,l,j,k,r⟩
 ·exact .inl h
 ·exact .inr ⟨g,b,c,l,j,Nat.le_trans m k,r⟩
theorem kk {w j:World} {a i n b:Nat} {e:TypeId} {v:Value} {k:List Value} (h:w.ownsRowF a e i v n k) (q:aL b w j) (p:v.ownBlock≠some b):j.ownsRowF a e i v n k:=by
 refine ⟨h.1,?_⟩
 rcases h.2 with h | ⟨g,c,d,o,f,l,m,r⟩
 ·exact .inl h
 ·exact .inr ⟨g,c,d,o,f,l,(q.2 g (fun e=>p (by rw [f,e];rfl))).trans m,r⟩
theorem jW {P:Program} (w:World) (c:Nat) (t u D e:TypeId) (i:TypeInfo) (G:P.underlying t=some (.slice e)) (H:P.underlying u=some .string) (E:P.info? e=some i) (O:i.zero=some (.int .u8 0))
  (a:i.size=1) (o:i.bytes=1) (v:Value) (n:Nat) (y:List Value) (b:w.ownsRowF c e 1 v n y) (s:ByteArray) (m:n+s.size≤maxLen) (d:n+s.size≤140737488355328) (f:c≤w.heap.size):
  ∃r x,(Builtin.append_ #[t,u] D #[v,.string s]).run P w= .ok r x∧x.ownsRowF c e 1 r (n+s.size) (y++Lib.strCells s)∧w.grownBy x v.ownBlock∧∀k,r.ownBlock=some k→v.ownBlock=some k∨w.heap.size≤k:=by
 rcases b.2 with ⟨rfl,rfl⟩ | ⟨g,h,z,R,rfl,S,U,L,V,T,K,M⟩
 ·obtain ⟨r,x,A,I,J,_⟩:=Lib.run_append_own_string (P:=P) w w.heap.size t u D e i G H E O a o (.slice none 0 0) 0 y ⟨b.1,.inl ⟨rfl,rfl⟩⟩ s m d (Nat.le_refl _);have B:=World.ownsRowF_of I;exact ⟨r,x,A,FN B f,J,fun k l=> .inr (B.lt k l).1⟩
 ·obtain ⟨r,x,A,I,J,_⟩:=Lib.run_append_own_stringF (P:=P) w c t u D e i G H E O a o _ n y b s m d f;refine ⟨r,x,A,I,J,fun k l=>?_⟩;have F:n+s.size≤9223372036854775807:=by simp only [maxLen] at m;omega
  have N:y.length=n:=by simpa using b.1
  by_cases q:n+s.size≤h
  ·have Q:z.size=h:=by simpa using K
   have C:=Lib.run_append_room_stringF (P:=P) w t u D e i G H E a g n h z R U (by simpa using L) s q (by omega);rw [A] at C;injection C with e1 _;rw [e1] at l;exact .inl l
  ·have p:∀j u,y[j]? =some u→w.cell? ((⟨g,0,none⟩:Addr).add j)=some u:=b.cells (g:=g) rfl;have C:=Lib.run_append_grow_string (P:=P) w t u D e i (.int .u8 0) G H E O ⟨g,0,none⟩ n h y (by rw [a];simpa using N) p s (by omega) (by omega) (by rw [o];exact growslice_fits (by omega) (by omega));rw [A] at C;injection C with e1 _;rw [e1] at l;injection l with l;exact .inr (Nat.le_of_eq l)
theorem iX {P:Program} {w:World} {c:Array Oper} {b:List Oper} {o:Oper} {a:Act} {Q:Exit→Act→World→Prop} (d:o.guard=none) (e x:Operand) (t u:TypeId)
  (i:o.op= .call {callee:= .builtin .append,args:=#[e,x],argTypes:=#[t,u]}) (v r:Value) (s:ByteArray) (f:World) (k:a.eval e=v) (l:a.eval x= .string s) (j:(Builtin.append_ #[t,u] o.type #[v,.string s]).run P w= .ok r f) (h:wpList P c Q b (a.put o.dst r) f):wpList P c Q (o::b) a w:=
 wpList_plain d fun K g=>by
  unfold Oper.wp execOp;simp only [i,resolve,invoke,builtin,Sem.run_bind,Sem.run_pure,Result.andThen_ok,List.map_toArray,List.map_cons,List.map_nil,k,l,j];exact g _ _ h
theorem lx:(Tryz.prog.info? 5).map (fun i=>(i.zero,i.size,i.bytes))=some (some (.int .u8 0),1,1):=by kernel_rfl
theorem lr (a l:List UInt8):Lib.byteCells (a++l)=Lib.byteCells a++Lib.strCells (bs l):=by simp [Lib.byteCells,Lib.strCells,bs]
theorem r8 (d b:Nat) (v:Value) (m l:List UInt8) (w:World) (h:jE d w b v m) (U:d≤w.heap.size) (a0:m.length+l.length≤140737488355328):
  Calls Tryz.prog 96 #[.pointer (some ⟨b,0,none⟩),.string (bs l)] w fun e I=>(∃r,e= .returned r)∧(∃H,jE d I b H (m++l)∧∀g,H.ownBlock=some g→v.ownBlock=some g∨w.heap.size≤g)∧(∀k o,w.heap[k]? =some o→k≠b→v.ownBlock≠some k→I.heap[k]? =some o)∧dU w I∧w.heap.size≤I.heap.size:=by
 obtain ⟨⟨p,hp,T⟩,A,z⟩:=h;obtain ⟨i,hi,W,X,Y⟩:=info_parts lx;have V:=aG l;have K:=Lib.hid (wC b v p w hp T);have HR:=Lib.hid A;have a1:b < w.heap.size:=(Array.getElem?_eq_some_iff.1 T).1;clear hp T A;go_enter Tryz.func96,Tryz.ntmps96;go_wp2_with fail
 refine K.out.mono ?_;rintro e Z ⟨rfl,D,q⟩;have c1:Z.cell? ⟨b,1,none⟩=some v:=by rw [Lib.cell_of_heap D];rfl
 have a2:Z.heap.size=w.heap.size:=q.1;obtain ⟨H,t,F,u,j,G⟩:=jW (P:=Tryz.prog) Z d 114 9 114 5 i Tryz.underlying114 Tryz.underlying9 hi W X Y v m.length (Lib.byteCells m) (kk HR.out q z) (bs l) (by unfold maxLen;omega) (by omega) (by omega);have s:t.heap[b]? =some (.cells #[.pointer (some ⟨b,0,none⟩),v] 133 (0,0)):=(j.block b (by omega) (fun e=>z e.symm)).trans D;have c2:t.cell? ⟨b,1,none⟩=some v:=by rw [Lib.cell_of_heap s];rfl
 have f2:=Lib.frozen_of_heap s 1
 have f:H.ownBlock≠some b:=fun e=>by
  rcases u.2 with ⟨C,_⟩ | ⟨g,R,S,fz,C,_,e3,_⟩
  ·rw [C] at e;cases e
  ·rw [C] at e;injection e with e;rw [show g=b from e,s] at e3;simp at e3
 obtain ⟨x,B,y,ev⟩:∃a n c,H= .slice a n c:=by
  rcases u.2 with ⟨C,_⟩ | ⟨g,R,S,fz,C,_⟩
  ·exact ⟨_,_,_,C⟩
  ·exact ⟨_,_,_,C⟩
 subst ev;have E:aL b t (t.setCell ⟨b,1,none⟩ (.slice x B y)):=(aL.refl _ _).setCell _
 have J:Hid (jE d (t.setCell ⟨b,1,none⟩ (.slice x B y)) b (.slice x B y) (m++l)):=Lib.hid ⟨⟨_,.inr rfl,heap_setCell_same t b 1 _ _ _ s⟩,by
  rw [lr,List.length_append,←V]
  exact kk u E f,f⟩
 have Q:=Lib.hid (fun g (h:(Value.slice x B y).ownBlock=some g)=>(G g h).imp id (fun h=>(by omega:w.heap.size≤g)));have L:Hid (∀k o,w.heap[k]? =some o→k≠b→v.ownBlock≠some k→(t.setCell ⟨b,1,none⟩ (.slice x B y)).heap[k]? =some o):=Lib.hid (fun k o e h1 h2=>(E.2 k h1).trans ((j.block k (by have:=(Array.getElem?_eq_some_iff.1 e).1;omega) (fun e'=>h2 e'.symm)).trans ((q.2 k h1).trans e)));have N:Hid (dU w (t.setCell ⟨b,1,none⟩ (.slice x B y))):=Lib.hid ((q.3.trans ⟨j.os,j.tape,j.output⟩).trans E.3);have O:Hid (w.heap.size≤(t.setCell ⟨b,1,none⟩ (.slice x B y)).heap.size):=Lib.hid (by rw [E.1];have:=j.size;omega);have M:=Lib.hid F;clear F u j G D q s E f
 go_wp2_with (first
  | (at_builtin;refine iX rfl _ _ 114 9 rfl v (.slice x B y) (bs l) t rfl rfl M.out ?_)
  | fail)
 go_ret2
 exact ⟨⟨_,rfl⟩,⟨_,J.out,Q.out⟩,L.out,N.out,O.out⟩
theorem Cp {w:World} {g:Nat} (n:Nat):aH (fun k=>k=g) w (w.freeze ⟨g,0,none⟩ n):=by
 obtain ⟨a,b,c⟩:(∀k,k≠g→(w.freeze ⟨g,0,none⟩ n).heap[k]? =w.heap[k]?)∧(w.freeze ⟨g,0,none⟩ n).heap.size=w.heap.size∧dU w (w.freeze ⟨g,0,none⟩ n):=by
  unfold World.freeze
  split
  ·exact ⟨fun _ _=>rfl,rfl,dU.refl w⟩
  ·refine ⟨fun k d=>?_,by simp,⟨rfl,rfl,rfl⟩⟩
   show (w.heap.modify g _)[k]? =_;rw [Array.getElem?_modify,if_neg (fun e=>d e.symm)]
 exact ⟨by rw [b];exact Nat.le_refl _,fun k _ f=>a k f,c⟩
theorem BQ (b g a:Nat) (d:Array Value) (s:Nat×Nat) (p:Option Addr) (l:List UInt8) (w:World) (h:l≠[]) (t:w.heap[b]? =some (.cells #[.pointer p,.slice (some ⟨g,0,none⟩) l.length a] 133 (0,0))) (u:w.heap[g]? =some (.cells d 5 s)) (q:l.length≤a) (f:a≤maxLen) (m:d.size=a) (c:∀j x,l[j]? =some x→w.cell? ((⟨g,0,none⟩:Addr).add j)=some (.int .u8 x.toNat)):
  Calls Tryz.prog 64 #[.pointer (some ⟨b,0,none⟩)] w fun e y=>e= .returned (.string (bs l))∧w.drew.freeze ⟨g,0,none⟩ l.length=y:=by
 have o:l.length≠0:=by simpa using h
 have z:w.drew.cell? ⟨b,1,none⟩=some (.slice (some ⟨g,0,none⟩) l.length a):=by
  have:w.drew.heap[b]? =some (.cells #[.pointer p,.slice (some ⟨g,0,none⟩) l.length a] 133 (0,0)):=t;rw [Lib.cell_of_heap this];rfl
 have i:(Builtin.unsafeSliceData_ #[114] (Tryz.lays169_ren.t 127) #[.slice (some ⟨g,0,none⟩) l.length a]).run Tryz.prog w.drew= .ok (.pointer (some ⟨g,0,none⟩)) w.drew:=
  Lib.run_unsafeSliceData_row _ _ _ _ _ _ (by omega)
 have k:(Builtin.unsafeString_ #[(Tryz.lays169_ren.t 127),3] 9 #[.pointer (some ⟨g,0,none⟩),.int .i64 l.length]).run Tryz.prog w.drew= .ok (.string ⟨l.toArray⟩) (w.drew.freeze ⟨g,0,none⟩ l.length):=by
  refine Lib.run_unsafeString_row w.drew _ 3 9 5 Tryz.lays169.t127 Tryz.Builder_Extra_169.cellsByte g d.size (by have n:w.drew.heap[g]? =some (.cells d 5 s):=u;simp [World.shape?,n]) l h (by omega) (by unfold maxLen at f;omega) ?_;exact fun j x v=>c j x v
 simp only [Tryz.lays169_ren] at i k;clear t u q f m c h o;have r:=Tryz.lays169.mixed;go_enter Tryz.func64,Tryz.ntmps64;go_wp2_with fail
 go_region_o
 all_goals (go_wp2;go_ret;exact ⟨rfl,rfl⟩)
theorem DP (b:Nat) (p:Option Addr) (w:World) (f:w.heap[b]? =some (.cells #[.pointer p,.slice none 0 0] 133 (0,0))):
  Calls Tryz.prog 64 #[.pointer (some ⟨b,0,none⟩)] w fun e g=>e= .returned (.string (bs []))∧w.drew=g:=by
 have c:=Any.unsafeString_none Tryz.lays169 Tryz.Builder_Extra_169
 have h:w.drew.cell? ⟨b,1,none⟩=some (.slice none 0 0):=by
  have:w.drew.heap[b]? =some (.cells #[.pointer p,.slice none 0 0] 133 (0,0)):=f;rw [Lib.cell_of_heap this];rfl
 have a:(Builtin.unsafeSliceData_ #[114] (Tryz.lays169_ren.t 127) #[.slice none 0 0]).run Tryz.prog w.drew= .ok (.pointer none) w.drew:=rfl;simp only [Tryz.lays169_ren] at a c;clear f;have d:=Tryz.lays169.mixed;go_enter Tryz.func64,Tryz.ntmps64;go_wp2_with fail
 go_region_o
 all_goals (go_wp2;go_ret;exact ⟨rfl,rfl⟩)
theorem BP (b g a:Nat) (p:Option Addr) (w:World) (c:a≠0) (i:w.heap[b]? =some (.cells #[.pointer p,.slice (some ⟨g,0,none⟩) 0 a] 133 (0,0))):
  Calls Tryz.prog 64 #[.pointer (some ⟨b,0,none⟩)] w fun e j=>e= .returned (.string (bs []))∧w.drew=j:=by
 have f:=Any.unsafeString_none Tryz.lays169 Tryz.Builder_Extra_169
 have k:w.drew.cell? ⟨b,1,none⟩=some (.slice (some ⟨g,0,none⟩) 0 a):=by
  have:w.drew.heap[b]? =some (.cells #[.pointer p,.slice (some ⟨g,0,none⟩) 0 a] 133 (0,0)):=i;rw [Lib.cell_of_heap this];rfl
 have d:(Builtin.unsafeSliceData_ #[114] (Tryz.lays169_ren.t 127) #[.slice (some ⟨g,0,none⟩) 0 a]).run Tryz.prog w.drew= .ok (.pointer (some ⟨g,0,none⟩)) w.drew:=
  Lib.run_unsafeSliceData_row _ _ _ _ _ _ c
 simp only [Tryz.lays169_ren] at d f;clear i c;have h:=Tryz.lays169.mixed;go_enter Tryz.func64,Tryz.ntmps64;go_wp2_with fail
 go_region_o
 all_goals (go_wp2;go_ret;exact ⟨rfl,rfl⟩)
theorem xg (b g:Nat) (p:Option Addr) (a:Array Value) (k:Nat×Nat) (w:World) (c:w.heap[b]? =some (.cells #[.pointer p,.slice (some ⟨g,0,none⟩) 0 0] 133 (0,0))) (l:w.heap[g]? =some (.cells a 5 k)):
  Calls Tryz.prog 64 #[.pointer (some ⟨b,0,none⟩)] w fun e q=>e= .returned (.string (bs []))∧Below w.heap.size w q:=by
 have f:=Any.unsafeString_none Tryz.lays169 Tryz.Builder_Extra_169;have i:=ah c
 have n:w.drew.cell? ⟨b,1,none⟩=some (.slice (some ⟨g,0,none⟩) 0 0):=by
  have:w.drew.heap[b]? =some (.cells #[.pointer p,.slice (some ⟨g,0,none⟩) 0 0] 133 (0,0)):=c;rw [Lib.cell_of_heap this];rfl
 have d:(Builtin.unsafeSliceData_ #[114] (Tryz.lays169_ren.t 127) #[.slice (some ⟨g,0,none⟩) 0 0]).run Tryz.prog w.drew= .ok (.pointer (some ⟨w.drew.heap.size,0,none⟩)) (w.drew.alloc (.view ⟨g,0,none⟩ 5)):=
  Lib.run_unsafeSliceData_zero w.drew _ _ 5 Tryz.lays169.t127 ⟨g,0,none⟩ 0 (5,a.size) (by have h:w.drew.heap[g]? =some (.cells a 5 k):=l;simp [World.shape?,h])
 have o:(w.drew.alloc (.view ⟨g,0,none⟩ 5)).cell? ⟨b,1,none⟩=some (.slice (some ⟨g,0,none⟩) 0 0):=by
  have:(w.drew.alloc (.view ⟨g,0,none⟩ 5)).heap[b]? =_:=(Lib.alloc_old w.drew _ b i).trans c;rw [Lib.cell_of_heap this];rfl
 have s:(w.alloc (.view ⟨g,0,none⟩ 5)).drew.cell? ⟨b,1,none⟩=some (.slice (some ⟨g,0,none⟩) 0 0):=o;have r:w.cell? ⟨b,1,none⟩=some (.slice (some ⟨g,0,none⟩) 0 0):=n;have m:Hid (Below w.heap.size w (w.drew.alloc (.view ⟨g,0,none⟩ 5))):=Lib.hid ((Below.drew (Below.refl _ w)).alloc (Nat.le_refl _) _);simp only [Tryz.lays169_ren] at d f;clear c l;have j:=Tryz.lays169.mixed;go_enter Tryz.func64,Tryz.ntmps64;go_wp2_with fail
 go_region_o
 all_goals (go_wp2;go_ret;exact ⟨rfl,m.out⟩)
theorem mi (d b:Nat) (v:Value) (a:List UInt8) (w:World) (h:jE d w b v a):
  Calls Tryz.prog 64 #[.pointer (some ⟨b,0,none⟩)] w fun e i=>e= .returned (.string (bs a))∧aH (fun k=>v.ownBlock=some k) w i:=by
 obtain ⟨p,_,l⟩:=h.blk
 rcases h.row.2 with ⟨e,D⟩ | ⟨g,c,f,r,e,A,u,B,o,m,n,q⟩
 ·obtain rfl:a=[]:=List.length_eq_zero_iff.1 D;subst e;refine (DP b p w l).mono ?_;rintro e i ⟨rfl,rfl⟩;exact ⟨rfl,aH.below (Below.drew (Below.refl _ w))⟩
 ·subst e
  by_cases s:a=[]
  ·subst s
   by_cases t:c=0
   ·subst t;refine (xg b g p f r w l u).mono ?_;rintro e i ⟨rfl,z⟩;exact ⟨rfl,aH.below z⟩
   ·refine (BP b g c p w t l).mono ?_;rintro e i ⟨rfl,rfl⟩;exact ⟨rfl,aH.below (Below.drew (Below.refl _ w))⟩
  ·refine (BQ b g c f r p a w s l u o m (by simpa using n) ?_).mono ?_
   ·intro j x C;have:=h.row.cells (g:=g) rfl j (.int .u8 x.toNat) (by simp [Lib.byteCells,C]);exact this
   ·rintro e i ⟨rfl,rfl⟩;refine ⟨rfl,?_⟩;have y:aH (fun k=>k=g) w w.drew:=aH.below (Below.drew (Below.refl _ w));exact (y.trans (Cp a.length) (fun _ _ e=>e)).mono (fun k _ e=>by rw [e];rfl)
end Go.Proofs.YtofpegbpgkkgkaaGreatDoor
