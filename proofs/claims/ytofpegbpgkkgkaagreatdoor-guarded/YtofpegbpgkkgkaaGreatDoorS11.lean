import Derived.Test.YtofpegbpgkkgkaaGreatDoorS05
import Derived.Test.YtofpegbpgkkgkaaGreatDoorS03
namespace Go.Proofs.YtofpegbpgkkgkaaGreatDoor
set_option maxHeartbeats 8000000
set_option maxRecDepth 1000000
open Go.RowKit
theorem lk (l:List Nat) (k:Nat) (h:k < l.length):(aX l)[k]? =some (.int .i64 (l[k]:Int)):=by simp [aX,h]
theorem uP {l:List Nat} {t:Nat} {k:Nat} (b:k < l.length) (h:t ∉ l.take k) (c:¬t=l[k]):t ∉ l.take (k+1):=by
 rw [List.take_succ_eq_append_getElem b,List.mem_append,List.mem_singleton];rintro (a | a)
 ·exact h a
 ·exact c a
theorem xA (l:List Nat) (t:Nat) (v:Value) (w:World) (h:aZ w v l.length 1 (aX l)) (z:l.length≤255):
  Calls Tryz.prog 283 #[v,.int .i64 (t:Int)] w fun e x=>∃r:Int,e= .returned (.int .i64 r)∧(-1≤r∧r≤255)∧(0≤r ↔ t∈l)∧w=x:=by
 obtain ⟨a,q,rfl,n⟩:=h.one;have p:=Lib.hid n;clear n h;go_enter Tryz.func283,Tryz.ntmps283;go_wp2_with fail
 go_loop [8] (fun i=>∃k:Nat,k≤l.length∧i= .int .i64 k∧Hid (t ∉ l.take k)) (fun i=>l.length - (intOf i).toNat)
 case atStart=>exact ⟨0,Nat.zero_le _,rfl,Lib.hid (by simp)⟩
 case round=>
  obtain ⟨k,y,rfl,m⟩:=hrel
  by_cases c:k < l.length
  ·have o:(k:Int) < (l.length:Int):=by omega
   obtain ⟨b,u,rfl,_,d⟩:=p.out k c;rw [lk l k c] at d
   by_cases g:t=l[k]
   ·have s:((t:Int) == (l[k]:Int))=true:=by rw [g];simp
    have f:Hid (t∈l):=Lib.hid (by rw [g];exact List.getElem_mem c);clear g;go_wp2_with fail
    go_ret;exact ⟨_,rfl,by omega,⟨fun _=>f.out,fun _=>by omega⟩,rfl⟩
   ·have s:((t:Int) == (l[k]:Int))=false:=by rw [beq_eq_false_iff_ne];omega
    have f:=Lib.hid (uP c m.out g);clear g;go_wp2_with fail
    exact ⟨⟨k+1,by omega,by go_num,f⟩,by simp [intOf];omega⟩
  ·have j:k=l.length:=by omega
   subst j
   have f:Hid (t ∉ l):=Lib.hid (by
    have:=m.out
    rwa [List.take_length] at this)
   go_wp2_with fail
   go_ret;exact ⟨_,rfl,by omega,⟨fun h=>by omega,fun h=>absurd h f.out⟩,rfl⟩
theorem qT (l:List Nat) (t:Nat) (v:Value) (w:World) (h:aZ w v l.length 1 (aX l)) (g:l.length≤255):
  Calls Tryz.prog 259 #[v,.int .i64 (t:Int)] w fun e i=>e= .returned (.bool (l.contains t))∧w=i:=by
 have c:=xA l t v w h g;obtain ⟨a,f,rfl,_⟩:=h.one;clear h;go_enter Tryz.func259,Tryz.ntmps259;go_wp2_with fail
 refine c.mono ?_;rintro e k ⟨r,rfl,j,b,rfl⟩;have d:Hid (decide (0≤r)=l.contains t):=Lib.hid (by rw [Bool.eq_iff_iff,decide_eq_true_iff,List.contains_iff_mem];exact b);clear b c;go_wp2_with fail
 go_ret;exact ⟨cA d.out,rfl⟩
structure jb (base:Nat) (w:World) (b:Nat) (v:Value) (acc:List UInt8):Prop where
 blk:∃p,(p=none∨p=some ⟨b,0,none⟩)∧w.heap[b]? =some (.cells #[.pointer p,v] 133 (0,0))
 row:w.ownsRowF base 5 1 v acc.length (Lib.byteCells acc)
 far:v.ownBlock≠some b
theorem uq (b:Nat) (v:Value) (p:Option Addr) (w:World) (c:p=none∨p=some ⟨b,0,none⟩) (h:w.heap[b]? =some (.cells #[.pointer p,v] 133 (0,0))):
  Calls Tryz.prog 135 #[.pointer (some ⟨b,0,none⟩)] w fun e a=>e= .returned (.tuple #[])∧a.heap[b]? =some (.cells #[.pointer (some ⟨b,0,none⟩),v] 133 (0,0))∧aH b w a:=by
 rcases c with rfl | rfl
 ·refine (Any.Builder_copyCheck_fresh (P:=Tryz.prog) {Tryz.lays159 with} Tryz.Builder_Extra_159.toX72 b w (by rw [Lib.cell_of_heap h];rfl) (by simp only [World.shape?,h];rfl) (Lib.frozen_of_heap h 0)).mono ?_;rintro e a ⟨rfl,rfl⟩;exact ⟨rfl,heap_setCell_same w b 0 _ _ _ h,(aH.refl _ _).setCell _⟩
 ·refine (Any.Builder_copyCheck_used (P:=Tryz.prog) {Tryz.lays159 with} Tryz.Builder_Extra_159.toX72 b w (by rw [Lib.cell_of_heap h];rfl)).mono ?_;rintro e a ⟨rfl,rfl⟩;exact ⟨rfl,h,aH.refl _ _⟩
theorem Em {w:World} {a d f n:Nat} {e:TypeId} {v:Value} {i:List Value} (h:w.ownsRowF a e f v n i) (m:d≤a):w.ownsRowF d e f v n i:=by
 refine ⟨h.1,?_⟩
 rcases h.2 with h | ⟨g,b,c,l,j,k,r⟩
 ·exact .inl h
 ·exact .inr ⟨g,b,c,l,j,Nat.le_trans m k,r⟩
theorem jT {w j:World} {a i n b:Nat} {e:TypeId} {v:Value} {k:List Value} (h:w.ownsRowF a e i v n k) (q:aH b w j) (p:v.ownBlock≠some b):j.ownsRowF a e i v n k:=by
 refine ⟨h.1,?_⟩
 rcases h.2 with h | ⟨g,c,d,o,f,l,m,r⟩
 ·exact .inl h
 ·exact .inr ⟨g,c,d,o,f,l,(q.2 g (fun e=>p (by rw [f,e];rfl))).trans m,r⟩
theorem jA {P:Program} (w:World) (c:Nat) (t u D e:TypeId) (i:TypeInfo) (G:P.underlying t=some (.slice e)) (H:P.underlying u=some .string) (E:P.info? e=some i) (O:i.zero=some (.int .u8 0))
  (a:i.size=1) (o:i.bytes=1) (v:Value) (n:Nat) (y:List Value) (b:w.ownsRowF c e 1 v n y) (s:ByteArray) (m:n+s.size≤maxLen) (d:n+s.size≤140737488355328) (f:c≤w.heap.size):
  ∃r x,(Builtin.append_ #[t,u] D #[v,.string s]).run P w= .ok r x∧x.ownsRowF c e 1 r (n+s.size) (y++Lib.strCells s)∧w.grownBy x v.ownBlock∧∀k,r.ownBlock=some k→v.ownBlock=some k∨w.heap.size≤k:=by
 rcases b.2 with ⟨rfl,rfl⟩ | ⟨g,h,z,R,rfl,S,U,L,V,T,K,M⟩
 ·obtain ⟨r,x,A,I,J,_⟩:=Lib.run_append_own_string (P:=P) w w.heap.size t u D e i G H E O a o (.slice none 0 0) 0 y ⟨b.1,.inl ⟨rfl,rfl⟩⟩ s m d (Nat.le_refl _);have B:=World.ownsRowF_of I;exact ⟨r,x,A,Em B f,J,fun k l=> .inr (B.lt k l).1⟩
 ·obtain ⟨r,x,A,I,J,_⟩:=Lib.run_append_own_stringF (P:=P) w c t u D e i G H E O a o _ n y b s m d f;refine ⟨r,x,A,I,J,fun k l=>?_⟩;have F:n+s.size≤9223372036854775807:=by simp only [maxLen] at m;omega
  have N:y.length=n:=by simpa using b.1
  by_cases q:n+s.size≤h
  ·have Q:z.size=h:=by simpa using K
   have C:=Lib.run_append_room_stringF (P:=P) w t u D e i G H E a g n h z R U (by simpa using L) s q (by omega);rw [A] at C;injection C with e1 _;rw [e1] at l;exact .inl l
  ·have p:∀j u,y[j]? =some u→w.cell? ((⟨g,0,none⟩:Addr).add j)=some u:=b.cells (g:=g) rfl;have C:=Lib.run_append_grow_string (P:=P) w t u D e i (.int .u8 0) G H E O ⟨g,0,none⟩ n h y (by rw [a];simpa using N) p s (by omega) (by omega) (by rw [o];exact growslice_fits (by omega) (by omega));rw [A] at C;injection C with e1 _;rw [e1] at l;injection l with l;exact .inr (Nat.le_of_eq l)
theorem iz {P:Program} {w:World} {c:Array Oper} {b:List Oper} {o:Oper} {a:Act} {Q:Exit→Act→World→Prop} (d:o.guard=none) (e x:Operand) (t u:TypeId)
  (i:o.op= .call {callee:= .builtin .append,args:=#[e,x],argTypes:=#[t,u]}) (v r:Value) (s:ByteArray) (f:World) (k:a.eval e=v) (l:a.eval x= .string s) (j:(Builtin.append_ #[t,u] o.type #[v,.string s]).run P w= .ok r f) (h:wpList P c Q b (a.put o.dst r) f):wpList P c Q (o::b) a w:=
 wpList_plain d fun K g=>by
  unfold Oper.wp execOp;simp only [i,resolve,invoke,builtin,Sem.run_bind,Sem.run_pure,Result.andThen_ok,List.map_toArray,List.map_cons,List.map_nil,k,l,j];exact g _ _ h
theorem kI:(Tryz.prog.info? 5).map (fun i=>(i.zero,i.size,i.bytes))=some (some (.int .u8 0),1,1):=by kernel_rfl
theorem kE (a l:List UInt8):Lib.byteCells (a++l)=Lib.byteCells a++Lib.strCells (bs l):=by simp [Lib.byteCells,Lib.strCells,bs]
theorem qM (d b:Nat) (v:Value) (m l:List UInt8) (w:World) (h:jb d w b v m) (U:d≤w.heap.size) (a0:m.length+l.length≤140737488355328):
  Calls Tryz.prog 96 #[.pointer (some ⟨b,0,none⟩),.string (bs l)] w fun e I=>(∃r,e= .returned r)∧(∃H,jb d I b H (m++l)∧∀g,H.ownBlock=some g→v.ownBlock=some g∨w.heap.size≤g)∧(∀k o,w.heap[k]? =some o→k≠b→v.ownBlock≠some k→I.heap[k]? =some o)∧dI w I∧w.heap.size≤I.heap.size:=by
 obtain ⟨⟨p,hp,T⟩,A,z⟩:=h;obtain ⟨i,hi,W,X,Y⟩:=info_parts kI;have V:=aI l;have K:=Lib.hid (uq b v p w hp T);have HR:=Lib.hid A;have a1:b < w.heap.size:=(Array.getElem?_eq_some_iff.1 T).1;clear hp T A;go_enter Tryz.func96,Tryz.ntmps96;go_wp2_with fail
 refine K.out.mono ?_;rintro e Z ⟨rfl,D,q⟩;have c1:Z.cell? ⟨b,1,none⟩=some v:=by rw [Lib.cell_of_heap D];rfl
 have a2:Z.heap.size=w.heap.size:=q.1;obtain ⟨H,t,F,u,j,G⟩:=jA (P:=Tryz.prog) Z d 114 9 114 5 i Tryz.underlying114 Tryz.underlying9 hi W X Y v m.length (Lib.byteCells m) (jT HR.out q z) (bs l) (by unfold maxLen;omega) (by omega) (by omega);have s:t.heap[b]? =some (.cells #[.pointer (some ⟨b,0,none⟩),v] 133 (0,0)):=(j.block b (by omega) (fun e=>z e.symm)).trans D;have c2:t.cell? ⟨b,1,none⟩=some v:=by rw [Lib.cell_of_heap s];rfl
 have f2:=Lib.frozen_of_heap s 1
 have f:H.ownBlock≠some b:=fun e=>by
  rcases u.2 with ⟨C,_⟩ | ⟨g,R,S,fz,C,_,e3,_⟩
  ·rw [C] at e;cases e
  ·rw [C] at e;injection e with e;rw [show g=b from e,s] at e3;simp at e3
 obtain ⟨x,B,y,ev⟩:∃a n c,H= .slice a n c:=by
  rcases u.2 with ⟨C,_⟩ | ⟨g,R,S,fz,C,_⟩
  ·exact ⟨_,_,_,C⟩
  ·exact ⟨_,_,_,C⟩
 subst ev;have E:aH b t (t.setCell ⟨b,1,none⟩ (.slice x B y)):=(aH.refl _ _).setCell _
 have J:Hid (jb d (t.setCell ⟨b,1,none⟩ (.slice x B y)) b (.slice x B y) (m++l)):=Lib.hid ⟨⟨_,.inr rfl,heap_setCell_same t b 1 _ _ _ s⟩,by
  rw [kE,List.length_append,←V]
  exact jT u E f,f⟩
 have Q:=Lib.hid (fun g (h:(Value.slice x B y).ownBlock=some g)=>(G g h).imp id (fun h=>(by omega:w.heap.size≤g)));have L:Hid (∀k o,w.heap[k]? =some o→k≠b→v.ownBlock≠some k→(t.setCell ⟨b,1,none⟩ (.slice x B y)).heap[k]? =some o):=Lib.hid (fun k o e h1 h2=>(E.2 k h1).trans ((j.block k (by have:=(Array.getElem?_eq_some_iff.1 e).1;omega) (fun e'=>h2 e'.symm)).trans ((q.2 k h1).trans e)));have N:Hid (dI w (t.setCell ⟨b,1,none⟩ (.slice x B y))):=Lib.hid ((q.3.trans ⟨j.os,j.tape,j.output⟩).trans E.3);have O:Hid (w.heap.size≤(t.setCell ⟨b,1,none⟩ (.slice x B y)).heap.size):=Lib.hid (by rw [E.1];have:=j.size;omega);have M:=Lib.hid F;clear F u j G D q s E f
 go_wp2_with (first
  | (at_builtin;refine iz rfl _ _ 114 9 rfl v (.slice x B y) (bs l) t rfl rfl M.out ?_)
  | fail)
 go_ret2
 exact ⟨⟨_,rfl⟩,⟨_,J.out,Q.out⟩,L.out,N.out,O.out⟩
end Go.Proofs.YtofpegbpgkkgkaaGreatDoor
