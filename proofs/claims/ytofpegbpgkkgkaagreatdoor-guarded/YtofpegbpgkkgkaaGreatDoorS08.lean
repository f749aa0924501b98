import Derived.Test.YtofpegbpgkkgkaaGreatDoorS06
namespace Go.Proofs.YtofpegbpgkkgkaaGreatDoor
set_option maxHeartbeats 8000000
set_option maxRecDepth 1000000
open Go.RowKit
theorem kS (k:IntKind) (j:Nat) (l:j≤k.bits) (m:∀n:Int,0≤n→n < 2 ^ j→k.wrap n=n) (a b:Nat) (f:a < 2 ^ j) (g:b < 2 ^ j):bits .xor k a b=((a ^^^ b:Nat):Int):=by
 have i:2 ^ j≤2 ^ k.bits:=Nat.pow_le_pow_right (by decide) l;have d:a % 2 ^ k.bits=a:=Nat.mod_eq_of_lt (Nat.lt_of_lt_of_le f i);have e:b % 2 ^ k.bits=b:=Nat.mod_eq_of_lt (Nat.lt_of_lt_of_le g i);have c:∀n:Nat,n < 2 ^ j→((n:Nat):Int) < 2 ^ j:=fun n h=>by exact_mod_cast h
 simp only [bits,BitVec.ofInt_natCast,BitVec.toNat_xor,BitVec.toNat_ofNat,d,e];exact m _ (Int.natCast_nonneg _) (c _ (Nat.xor_lt_two_pow f g))
theorem EG (n:Int) (a:0≤n) (b:n < 2 ^ 32):IntKind.i64.wrap n=n:=by rw [IntKind.wrap_i64];omega
theorem EF (n:Int):IntKind.u32.wrap n=n % 4294967296:=by simp [IntKind.wrap,IntKind.bits,IntKind.signed]
theorem nh (n:Int) (a:0≤n) (b:n < 2 ^ 32):IntKind.u32.wrap n=n:=by rw [EF];omega
def gu (w:World) (b:Nat) (o:Option (List UInt8)):Prop:=
 match o with
 | some l=>w.heap[b]? =some (.cells #[.string (bs l),.bool false] 187 (0,0))∧l.length≤maxLen
 | none=>∃l:List UInt8,w.heap[b]? =some (.cells #[.string (bs l),.bool true] 187 (0,0))
def gy (o:Option (List UInt8×List UInt8)):List UInt8:=(o.map (·.1)).getD []
theorem iB (b k:Nat) (o:Option (List UInt8)) (w:World) (h:gu w b o) (q:k≤maxLen):
  Calls Tryz.prog 112 #[.pointer (some ⟨b,0,none⟩),.int .i64 k] w fun e i=>e= .returned (.string (bs (gy (o.bind (bg k)))))∧gu i b ((o.bind (bg k)).map (·.2))∧aH b w i:=by
 unfold maxLen at q
 cases o with
 | none=>
  obtain ⟨l,a⟩:=h;have j:w.cell? ⟨b,0,none⟩=some (.string (bs l)):=by rw [Lib.cell_of_heap a];rfl
  have m:w.cell? ⟨b,1,none⟩=some (.bool true):=by rw [Lib.cell_of_heap a];rfl
  have n:w.frozen? ⟨b,1,none⟩=false:=Lib.frozen_of_heap a 1;have d:=Lib.hid a;clear a;go_enter Tryz.func112,Tryz.ntmps112;go_wp2_with fail
  go_ret;exact ⟨rfl,⟨l,heap_setCell_same w b 1 _ _ (.bool true) d.out⟩,(aH.refl b w).setCell _⟩
 | some l=>
  obtain ⟨a,g⟩:=h;unfold maxLen at g;have j:w.cell? ⟨b,0,none⟩=some (.string (bs l)):=by rw [Lib.cell_of_heap a];rfl
  have m:w.cell? ⟨b,1,none⟩=some (.bool false):=by rw [Lib.cell_of_heap a];rfl
  have r:w.frozen? ⟨b,0,none⟩=false:=Lib.frozen_of_heap a 0;have n:w.frozen? ⟨b,1,none⟩=false:=Lib.frozen_of_heap a 1;have s:=aI l;have d:=Lib.hid a;clear a
  by_cases c:k≤l.length
  ·have p:decide ((l.length:Int) < (k:Int))=false:=by simp;omega
   have f:decide (l.length < k)=false:=by simp;omega
   go_enter Tryz.func112,Tryz.ntmps112;go_wp2_with fail
   simp only [gw,List.drop_zero,List.take_length];have e:(some l).bind (bg k)=some (l.take k,l.drop k):=by show bg k l=_;unfold bg;rw [if_pos c]
   go_ret;rw [e];exact ⟨rfl,⟨heap_setCell_same w b 0 _ _ (.string (bs (l.drop k))) d.out,by rw [List.length_drop];unfold maxLen;omega⟩,(aH.refl b w).setCell _⟩
  ·have p:decide ((l.length:Int) < (k:Int))=true:=by simp;omega
   have f:decide (l.length < k)=true:=by simp;omega
   go_enter Tryz.func112,Tryz.ntmps112;go_wp2_with fail
   have e:(some l).bind (bg k)=none:=by show bg k l=_;unfold bg;rw [if_neg c]
   go_ret;rw [e];exact ⟨rfl,⟨l,heap_setCell_same w b 1 _ _ (.bool true) d.out⟩,(aH.refl b w).setCell _⟩
theorem Hj {N x:Nat} (a:N < 16777216) (b:x < 256):bits .or .i64 (wrap64 ((N:Int) * 256)) (x:Int)=((256 * N+x:Nat):Int):=by
 rw [GD _ (by omega),bits_join .i64 32 (by decide) EG 8 _ _ (by omega) (by omega) (by omega) (by omega) (by omega) (by omega)];omega
theorem dN (b k:Nat) (o:Option (List UInt8)) (w:World) (h:gu w b o) (F:k≤4):
  Calls Tryz.prog 111 #[.pointer (some ⟨b,0,none⟩),.int .i64 k] w fun e v=>e= .returned (.int .i64 (be (gy (o.bind (bg k)))))∧gu v b ((o.bind (bg k)).map (·.2))∧aH b w v:=by
 have a:=iB b k o w h (by unfold maxLen;omega)
 have d:(gy (o.bind (bg k))).length≤4:=by
  cases e:o.bind (bg k) with
  | none=>simp [gy]
  | some x=>
   obtain ⟨l,m,c⟩:=b9 e;obtain ⟨y,r⟩:=x;have:=(jf c).2.2.2;show y.length≤4;omega
 obtain ⟨t,s⟩:∃t,gy (o.bind (bg k))=t:=⟨_,rfl⟩;obtain ⟨r,u⟩:∃r,(o.bind (bg k)).map (·.2)=r:=⟨_,rfl⟩;rw [s] at d;rw [s,u] at a ⊢;clear s u h;have G:=aI t;go_enter Tryz.func111,Tryz.ntmps111;go_wp2_with fail
 refine a.mono ?_;rintro e H ⟨rfl,m,c⟩;have z:=Lib.hid m;have A:=Lib.hid c;clear a m c;go_wp2_with fail
 go_loop [6,13] (fun n i=>∃j N:Nat,j≤t.length∧i= .int .i64 j∧n= .int .i64 N∧Hid (N=be (t.take j))) (fun _ i=>t.length - (intOf i).toNat)
 case atStart=>exact ⟨0,0,Nat.zero_le _,rfl,rfl,rfl⟩
 case round=>
  obtain ⟨j,N,E,rfl,rfl,g⟩:=hrel
  by_cases q:j < t.length
  ·have f:j < (bs t).size:=by omega
   have B:Hid (N < 16777216):=Lib.hid (by
    rw [g.out];have m:=yF (t.take j);have c:256 ^ (t.take j).length≤256 ^ 3:=Nat.pow_le_pow_right (by decide) (by rw [List.length_take];omega);have D:256 ^ 3=16777216:=by decide
    omega)
   go_wp2_with fail
   refine ⟨⟨j+1,be (t.take (j+1)),by omega,by go_num,?_,rfl⟩,by simp [intOf];omega⟩
   refine congrArg (Value.int .i64) ?_;rw [GP t j q,←E0 t j f,←g.out];have C:=((bs t)[j]).toNat_lt;rw [GD (((bs t)[j]).toNat:Int) (by omega)];exact Hj B.out C
  ·have p:j=t.length:=by omega
   subst p;rw [List.take_length] at g;go_wp2_with fail
   go_ret;exact ⟨congrArg (fun x:Nat=>Ending.returned (.int .i64 (x:Int))) g.out,z.out,A.out⟩
theorem IG (k:Nat) (o:Option (List UInt8)):((o.bind (bg k)).map (·.2)).bind (bg (be (gy (o.bind (bg k)))))=o.bind (ue k):=by
 cases o with
 | none=>rfl
 | some l=>
  show ((bg k l).map (·.2)).bind (bg (be (gy (bg k l))))=ue k l;unfold ue fU bg
  by_cases h:k≤l.length
  ·rw [if_pos h,if_pos h];rfl
  ·rw [if_neg h,if_neg h];rfl
theorem ti (k:Nat) (o:Option (List UInt8)):(o.bind (bg k)).map (·.2)=(o.bind (fU k)).map (·.2)∧be (gy (o.bind (bg k)))=((o.bind (fU k)).map (·.1)).getD 0:=by
 cases o with
 | none=>exact ⟨rfl,rfl⟩
 | some l=>
  show (bg k l).map (·.2)=(fU k l).map (·.2)∧be (gy (bg k l))=((fU k l).map (·.1)).getD 0;unfold fU bg
  by_cases h:k≤l.length
  ·rw [if_pos h,if_pos h];exact ⟨rfl,rfl⟩
  ·rw [if_neg h,if_neg h];exact ⟨rfl,rfl⟩
theorem nY (b k:Nat) (o:Option (List UInt8)) (w:World) (h:gu w b o) (F:k≤4):
  Calls Tryz.prog 163 #[.pointer (some ⟨b,0,none⟩),.int .i64 k] w fun e i=>e= .returned (.string (bs (gy (o.bind (ue k)))))∧gu i b ((o.bind (ue k)).map (·.2))∧aH b w i:=by
 have c:=dN b k o w h F
 have v:be (gy (o.bind (bg k)))≤maxLen:=by
  have f:(gy (o.bind (bg k))).length≤4:=by
   cases e:o.bind (bg k) with
   | none=>simp [gy]
   | some x=>
    obtain ⟨l,q,g⟩:=b9 e;obtain ⟨y,r⟩:=x;have:=(jf g).2.2.2;show y.length≤4;omega
  have:=rq f;unfold maxLen;omega
 have a:=fun i E=>iB b (be (gy (o.bind (bg k)))) ((o.bind (bg k)).map (·.2)) i E v;rw [IG] at a;obtain ⟨N,m⟩:∃N,be (gy (o.bind (bg k)))=N:=⟨_,rfl⟩;obtain ⟨r,n⟩:∃r,(o.bind (bg k)).map (·.2)=r:=⟨_,rfl⟩;obtain ⟨t,p⟩:∃t,gy (o.bind (ue k))=t:=⟨_,rfl⟩;obtain ⟨z,d⟩:∃z,(o.bind (ue k)).map (·.2)=z:=⟨_,rfl⟩;rw [m,n] at c;rw [m,n,p,d] at a;rw [p,d];have j:=Lib.hid a;clear a v m n p d h;go_enter Tryz.func163,Tryz.ntmps163;go_wp2_with fail
 refine c.mono ?_;rintro e G ⟨rfl,q,g⟩;have A:=Lib.hid q;have B:=Lib.hid g;clear c q g;go_wp2_with fail
 refine (j.out _ A.out).mono ?_;rintro e H ⟨rfl,s,u⟩;have C:=Lib.hid s;have D:=Lib.hid (B.out.trans u);clear s u;go_wp2_with fail
 go_ret;exact ⟨rfl,C.out,D.out⟩
theorem sA (b:Nat) (o:Option (List UInt8)) (w:World) (h:gu w b o):
  Calls Tryz.prog 164 #[.pointer (some ⟨b,0,none⟩)] w fun e f=>e= .returned (.bool (decide (o=some [])))∧w=f:=by
 cases o with
 | none=>
  obtain ⟨l,a⟩:=h;have c:w.cell? ⟨b,0,none⟩=some (.string (bs l)):=by rw [Lib.cell_of_heap a];rfl
  have d:w.cell? ⟨b,1,none⟩=some (.bool true):=by rw [Lib.cell_of_heap a];rfl
  clear a;go_enter Tryz.func164,Tryz.ntmps164;go_wp2_with fail
  go_ret;exact ⟨cA (by simp),rfl⟩
 | some l=>
  obtain ⟨a,_⟩:=h;have c:w.cell? ⟨b,0,none⟩=some (.string (bs l)):=by rw [Lib.cell_of_heap a];rfl
  have d:w.cell? ⟨b,1,none⟩=some (.bool false):=by rw [Lib.cell_of_heap a];rfl
  clear a;go_enter Tryz.func164,Tryz.ntmps164;go_wp2_with fail
  go_ret;exact ⟨cA (by rw [Lib.toList_data,aQ];cases l <;> simp),rfl⟩
def fT (k:Nat) (o:Option (List UInt8)):Nat×Option (List UInt8):=(be (gy (o.bind (bg k))),(o.bind (bg k)).map (·.2))
def jB (k:Nat) (o:Option (List UInt8)):List UInt8×Option (List UInt8):=(gy (o.bind (ue k)),(o.bind (ue k)).map (·.2))
def iJ:Nat→Option (List UInt8)→List (List UInt8)×Option (List UInt8)
 | 0,o=>([],o)
 | n+1,o=>((iJ n o).1++[(jB 1 (iJ n o).2).1],(jB 1 (iJ n o).2).2)
def ij:Nat→Option (List UInt8)→List Nat×Option (List UInt8)
 | 0,o=>([],o)
 | n+1,o=>((ij n o).1++[(fT 1 (ij n o).2).1],(fT 1 (ij n o).2).2)
def lR {α:Type} (x:α×Option (List UInt8)):Option (α×List UInt8):=x.2.map fun r=>(x.1,r)
theorem jR (k:Nat):fT k none=(0,none):=rfl
theorem qg (k:Nat):jB k none=([],none):=rfl
theorem oq:∀n,(iJ n none).2=none
 | 0=>rfl
 | n+1=>by rw [iJ,oq n];rfl
theorem lr:∀n,(ij n none).2=none
 | 0=>rfl
 | n+1=>by rw [ij,lr n];rfl
theorem jh (k:Nat) (l:List UInt8):fU k l=lR (fT k (some l)):=by
 unfold fT lR fU;show _=((bg k l).map (·.2)).map _;unfold bg
 by_cases h:k≤l.length
 ·rw [if_pos h,if_pos h];show _=some (be (gy ((some l).bind fun l=>if k≤l.length then some (l.take k,l.drop k) else none)),l.drop k);rw [sb,if_pos h];rfl
 ·rw [if_neg h,if_neg h];rfl
theorem tY (k:Nat) (l:List UInt8):ue k l=lR (jB k (some l)):=by
 unfold jB lR;show _=((ue k l).map (·.2)).map fun r=>(gy (ue k l),r)
 cases ue k l with
 | none=>rfl
 | some x=>rfl
theorem ub:∀(n:Nat) (o:Option (List UInt8)),iJ (n+1) o=((jB 1 o).1::(iJ n (jB 1 o).2).1,(iJ n (jB 1 o).2).2)
 | 0,o=>rfl
 | n+1,o=>by
  rw [iJ,ub n o];rw [iJ];rfl
theorem tj:∀(n:Nat) (o:Option (List UInt8)),ij (n+1) o=((fT 1 o).1::(ij n (fT 1 o).2).1,(ij n (fT 1 o).2).2)
 | 0,o=>rfl
 | n+1,o=>by
  rw [ij,tj n o];rw [ij];rfl
theorem wz:∀(n:Nat) (l:List UInt8),uZ n l=lR (iJ n (some l))
 | 0,l=>rfl
 | n+1,l=>by
  rw [uZ,tY,ub]
  cases h:(jB 1 (some l)).2 with
  | none=>
   have e:lR (jB 1 (some l))=none:=by unfold lR;rw [h];rfl
   rw [e];unfold lR;rw [oq];rfl
  | some r=>
   have e:lR (jB 1 (some l))=some ((jB 1 (some l)).1,r):=by unfold lR;rw [h];rfl
   rw [e,sb,wz n r];unfold lR
   cases (iJ n (some r)).2 <;> rfl
theorem tp:∀(n:Nat) (l:List UInt8),nF n l=lR (ij n (some l))
 | 0,l=>rfl
 | n+1,l=>by
  rw [nF,jh,tj]
  cases h:(fT 1 (some l)).2 with
  | none=>
   have e:lR (fT 1 (some l))=none:=by unfold lR;rw [h];rfl
   rw [e];unfold lR;rw [lr];rfl
  | some r=>
   have e:lR (fT 1 (some l))=some ((fT 1 (some l)).1,r):=by unfold lR;rw [h];rfl
   rw [e,sb,tp n r];unfold lR
   cases (ij n (some r)).2 <;> rfl
theorem BB (r:List UInt8) {m k n l o j:Option (List UInt8)} {I T N:Nat} {f B:List UInt8} {p:List (List UInt8)} (s:fT 4 (some r)=(I,m)) (g:fT 4 m=(T,k)) (i:jB 1 k=(f,n)) (a:fT 1 n=(N,l)) (q:iJ N l=(p,o)) (b:jB 2 o=(B,j)):
  mq r=if j=some [] then some ⟨I,T,f,p,B⟩ else none:=by
 have c:l=none→j=none:=fun e=>by
  subst e;have:=oq N;rw [q] at this;simp only at this;subst this;rw [qg] at b;injection b with _ b;exact b.symm
 have d:k=none→j=none:=fun e=>by
  subst e;rw [qg] at i;injection i with _ i;subst i;rw [jR] at a;injection a with _ a;exact c a.symm
 unfold mq;rw [jh,s]
 cases m with
 | none=>
  rw [jR] at g;injection g with _ g;rw [d g.symm];rfl
 | some r1=>
  show ((fU 4 r1).bind _)=_;rw [jh,g]
  cases k with
  | none=>rw [d rfl];rfl
  | some r2=>
   show ((ue 1 r2).bind _)=_;rw [tY,i]
   cases n with
   | none=>
    rw [jR] at a;injection a with _ a;rw [c a.symm];rfl
   | some r3=>
    show ((fU 1 r3).bind _)=_;rw [jh,a]
    cases l with
    | none=>rw [c rfl];rfl
    | some r4=>
     show ((uZ N r4).bind _)=_;rw [wz,q]
     cases o with
     | none=>
      rw [qg] at b;injection b with _ b;rw [←b];rfl
     | some r5=>
      show ((ue 2 r5).bind _)=_;rw [tY,b]
      cases j with
      | none=>rfl
      | some r6=>
       show (if r6=[] then _ else _)=_
       by_cases h:r6=[]
       ·rw [if_pos h,if_pos (by rw [h])]
       ·rw [if_neg h,if_neg (by intro e;injection e with e;exact h e)]
theorem Bx (r:List UInt8) {f c d:Option (List UInt8)} {I N:Nat} {g:List Nat} (j:fT 4 (some r)=(I,f)) (b:fT 1 f=(N,c)) (i:ij N c=(g,d)):
  qx r=if d=some [] then some (I,g) else none:=by
 have a:c=none→d=none:=fun e=>by
  subst e;have:=lr N;rw [i] at this;exact this
 unfold qx;rw [jh,j]
 cases f with
 | none=>
  rw [jR] at b;injection b with _ b;rw [a b.symm];rfl
 | some r1=>
  show ((fU 1 r1).bind _)=_;rw [jh,b]
  cases c with
  | none=>rw [a rfl];rfl
  | some r2=>
   show ((nF N r2).bind _)=_;rw [tp,i]
   cases d with
   | none=>rfl
   | some r3=>
    show (if r3=[] then _ else _)=_
    by_cases h:r3=[]
    ·rw [if_pos h,if_pos (by rw [h])]
    ·rw [if_neg h,if_neg (by intro e;injection e with e;exact h e)]
theorem lp (k:Nat) (o:Option (List UInt8)):(fT k o).1 < 256 ^ k:=by
 unfold fT
 cases e:o.bind (bg k) with
 | none=>exact Nat.pow_pos (by decide)
 | some x=>
  obtain ⟨l,_,a⟩:=b9 e;obtain ⟨y,r⟩:=x;have:=(jf a).2.2.2;have h:=yF y;rw [this] at h;exact h
theorem rL (k:Nat) (o:Option (List UInt8)):(jB k o).1.length < 256 ^ k:=by
 unfold jB
 cases e:o.bind (ue k) with
 | none=>exact Nat.pow_pos (by decide)
 | some x=>
  obtain ⟨l,_,a⟩:=b9 e;obtain ⟨y,r⟩:=x;exact (rK a).2.2.2
theorem wB:∀(n:Nat) (o:Option (List UInt8)),(iJ n o).1.length=n
 | 0,_=>rfl
 | n+1,o=>by rw [iJ,List.length_append,wB n];rfl
theorem Aq:∀(n:Nat) (o:Option (List UInt8)),∀t∈(iJ n o).1,t.length < 256
 | 0,_,t,h=>by cases h
 | n+1,o,t,h=>by
  rw [iJ] at h
  rcases List.mem_append.1 h with h | h
  ·exact Aq n o t h
  ·simp only [List.mem_singleton] at h;subst h;exact rL 1 _
theorem vZ:∀(n:Nat) (o:Option (List UInt8)),(ij n o).1.length=n
 | 0,_=>rfl
 | n+1,o=>by rw [ij,List.length_append,vZ n];rfl
theorem zM:∀(n:Nat) (o:Option (List UInt8)),∀x∈(ij n o).1,x < 256
 | 0,_,t,h=>by cases h
 | n+1,o,t,h=>by
  rw [ij] at h
  rcases List.mem_append.1 h with h | h
  ·exact zM n o t h
  ·simp only [List.mem_singleton] at h;subst h;exact lp 1 _
def kv:aR:=⟨0,0,[],[],[]⟩
def wH (l:List UInt8) (w:World) (e:Ending) (w':World):Prop:=
 (bL l=none∧e= .returned (.tuple #[.agg (aV kv (.slice none 0 0)),.bool false])∨∃mm v,bL l=some mm∧e= .returned (.tuple #[.agg (aV mm v),.bool true])∧w'.ownsRow w.heap.size 9 1 v mm.tos.length (az mm.tos)∧dq mm)∧Below w.heap.size w w'
structure RS (w wk:World) (s:Nat) (o:Option (List UInt8)) (I T:Nat) (f:List UInt8) (v:Value) (B:List UInt8):Prop where
 fd:gu wk (s+1) o
 res:fY wk s 0 0 [] (.slice none 0 0) []
 mail:fY wk (s+2) I T f v B
 below:Below s w wk
 size:s+3≤wk.heap.size
theorem gu.same {w d:World} {b s:Nat} {o:Option (List UInt8)} (h:gu w b o) (c:aH s w d) (a:b≠s):gu d b o:=by
 cases o with
 | none=>obtain ⟨l,h⟩:=h;exact ⟨l,(c.2 b a).trans h⟩
 | some l=>exact ⟨(c.2 b a).trans h.1,h.2⟩
theorem gu.blk {w c:World} {b:Nat} {o:Option (List UInt8)} (h:gu w b o) (a:c.heap[b]? =w.heap[b]?):gu c b o:=by
 cases o with
 | none=>obtain ⟨l,h⟩:=h;exact ⟨l,a.trans h⟩
 | some l=>exact ⟨a.trans h.1,h.2⟩
theorem RS.fdStep {w d a:World} {s I T:Nat} {o c:Option (List UInt8)} {f B:List UInt8} {v:Value} (h:RS w d s o I T f v B) (b:aH (s+1) d a) (e:gu a (s+1) c):RS w a s c I T f v B:=
 ⟨e,h.res.same b (by omega),h.mail.same b (by omega),h.below.trans (b.below (by omega)),by rw [b.1];exact h.size⟩
theorem RS.keep {w c b:World} {s I T:Nat} {o:Option (List UInt8)} {f B:List UInt8} {v:Value} (h:RS w c s o I T f v B) (a:Below c.heap.size c b):RS w b s o I T f v B:=by
 have d:=h.size;refine ⟨h.fd.blk (a.block (s+1) (by omega)),?_,?_,h.below.trans (a.mono (by omega)),Nat.le_trans h.size a.size⟩
 ·have:=h.res;unfold fY at this ⊢;rw [a.block s (by omega)];exact this
 ·have:=h.mail;unfold fY at this ⊢;rw [a.block (s+2) (by omega)];exact this
theorem RS.cellAt {w a:World} {s I T:Nat} {o:Option (List UInt8)} {f B:List UInt8} {v:Value} (h:RS w a s o I T f v B) (j:Nat):a.cell? ⟨s+2,j,none⟩=(#[.int .i64 I,.int .i64 T,.string (bs f),v,.string (bs B)]:Array Value)[j]? ∧a.frozen? ⟨s+2,j,none⟩=false:=h.mail.cell j
theorem RS.set {w a:World} {s I T I' T' j:Nat} {o:Option (List UInt8)} {f B f' B':List UInt8} {v v' u:Value} (h:RS w a s o I T f v B) (e:(#[.int .i64 I,.int .i64 T,.string (bs f),v,.string (bs B)]:Array Value).setIfInBounds j u=#[.int .i64 I',.int .i64 T',.string (bs f'),v',.string (bs B')]):RS w (a.setCell ⟨s+2,j,none⟩ u) s o I' T' f' v' B':=by
 have b:aH (s+2) a (a.setCell ⟨s+2,j,none⟩ u):=(aH.refl _ _).setCell _;refine ⟨h.fd.same b (by omega),h.res.same b (by omega),?_,h.below.trans (b.below (by omega)),by rw [b.1];exact h.size⟩
 have:=heap_setCell_same a (s+2) j _ _ u h.mail;unfold fY;rw [this,e]
theorem RS.ofGrown {w d m l:World} {s I T n:Nat} {o:Option (List UInt8)} {f B:List UInt8} {v:Value} {q:List Value} (h:RS w d s o I T f v B) (p:d.ownsRow (s+3) 9 1 v n q) (c:Below d.heap.size d m) (g:m.grownBy l v.ownBlock):RS w l s o I T f v B:=by
 have t:=h.size;have a:∀j,v.ownBlock=some j→s+3≤j:=fun j i=>(p.lt j i).1
 have b:∀k,k < s+3→l.heap[k]? =d.heap[k]? :=fun k r=>by
  rw [g.block k (by have:=c.size;omega) (fun e=>by have:=a k e.symm;omega),c.block k (by omega)]
 refine ⟨h.fd.blk (b _ (by omega)),?_,?_,?_,by have:=c.size;have:=g.size;omega⟩
 ·have:=h.res;unfold fY at this ⊢;rw [b s (by omega)];exact this
 ·have:=h.mail;unfold fY at this ⊢;rw [b (s+2) (by omega)];exact this
 ·exact (h.below.trans (c.mono (by omega))).grown g (by have:=c.size;omega) (fun j i=>by have:=a j i;omega)
theorem jM (l:List UInt8) (m:Int) (w:World) (hl:l.length≤1048576) (hm:w.cell? ⟨0,0,none⟩=some (.int .i64 m)):
  Calls Tryz.prog 114 #[.string (bs l)] w (wH l w):=by
 have h0:=aA hm;have sl:=aI l;obtain ⟨s,hs⟩:∃s,w.heap.size=s:=⟨_,rfl⟩;rw [hs] at h0;obtain ⟨W0,V⟩:∃W0:World,(w.alloc (.cells #[.int .i64 0,.int .i64 0,.string ⟨#[]⟩,.slice none 0 0,.string ⟨#[]⟩] 45)).alloc (.cells #[.string (bs l),.bool false] 187)=W0:=⟨_,rfl⟩;have F0:gu W0 (s+1) (some l):=⟨by rw [←V,←hs];have:=heap_alloc_new (w.alloc (.cells #[.int .i64 0,.int .i64 0,.string ⟨#[]⟩,.slice none 0 0,.string ⟨#[]⟩] 45)) (.cells #[.string (bs l),.bool false] 187);simpa using this,by unfold maxLen;omega⟩
 have R0:fY W0 s 0 0 [] (.slice none 0 0) []:=by
  unfold fY;rw [←V,←hs,((Below.refl (w.alloc (.cells #[.int .i64 0,.int .i64 0,.string ⟨#[]⟩,.slice none 0 0,.string ⟨#[]⟩] 45)).heap.size _).alloc (Nat.le_refl _) _).block w.heap.size (by simp)];exact heap_alloc_new w _
 have B0:Below s w W0:=by rw [←V];exact ((Below.refl _ _).alloc (by omega) _).alloc (by simp;omega) _
 have Z0:W0.heap.size=s+2:=by rw [←V,←hs];simp
 have R:=Lib.hid (iB (s+1) 1 (some l) W0 F0 (by decide));have b7:=Lib.hid V;have U:=Lib.hid hs;have a6:=Lib.hid R0;have a4:=Lib.hid B0;have f5:=Lib.hid Z0;clear V F0 R0 B0 Z0
 by_cases a0:l.take 1=[77]
 ·obtain ⟨r,hr⟩:∃r,l.drop 1=r:=⟨_,rfl⟩;have HL:Hid (l=77::r):=Lib.hid (by rw [←List.take_append_drop 1 l,a0,hr];rfl)
  have e1:(some l).bind (bg 1)=some ([77],r):=by
   show bg 1 l=_;rw [HL.out];rfl
  have S:Hid (bL l=(mq r).bind fun m=>if de m then some m else none):=Lib.hid (by
   rw [HL.out];unfold bL;simp only;rw [if_pos trivial])
  rw [e1] at R;have l6:r.length≤1048576:=by rw [←hr,List.length_drop];omega
  clear e1 hr a0;go_enter Tryz.func114,Tryz.ntmps114;go_wp2_with fail
  rw [b7.out];refine R.out.mono ?_;rintro e W ⟨rfl,B,y⟩
  have m1:((bs (gy (some ([77],r)))).toList == [77])=true:=by
   show ((bs [77]).toList == [77])=true;rw [pM];rfl
  have F1:gu W (s+1) (some r):=B;have O:=a6.out.same y (by omega);have B1:=a4.out.trans (y.below (by omega));have Z1:W.heap.size=s+2:=y.1.trans f5.out;obtain ⟨W2,a1⟩:∃W2:World,W.alloc (.cells #[.int .i64 0,.int .i64 0,.string ⟨#[]⟩,.slice none 0 0,.string ⟨#[]⟩] 45)=W2:=⟨_,rfl⟩
  have S2:RS w W2 s (some r) 0 0 [] (.slice none 0 0) []:=by
   have hb:Below W.heap.size W W2:=by rw [←a1];exact (Below.refl _ _).alloc (Nat.le_refl _) _
   refine ⟨F1.blk (hb.block (s+1) (by omega)),?_,?_,B1.trans (hb.mono (by omega)),by rw [←a1];simp;omega⟩
   ·unfold fY at O ⊢;rw [hb.block s (by omega)];exact O
   ·unfold fY;rw [←a1,←Z1];exact heap_alloc_new W _
  have b3:=Lib.hid S2;have e6:=Lib.hid a1;clear B y F1 O B1 R a6 a4 f5 b7 S2 a1;obtain ⟨I,o1,hI⟩:∃I o1,fT 4 (some r)=(I,o1):=⟨_,_,rfl⟩;have i4:I≤4294967295:=by have:=lp 4 (some r);rw [hI] at this;simp at this;omega
  have A:Calls Tryz.prog 111 #[.pointer (some ⟨s+1,0,none⟩),.int .i64 4] W2 fun e q=>e= .returned (.int .i64 (fT 4 (some r)).1)∧gu q (s+1) (fT 4 (some r)).2∧aH (s+1) W2 q:=dN (s+1) 4 (some r) W2 b3.out.fd (by decide);rw [hI] at A;have Q:=Lib.hid A;have HI:=Lib.hid hI;clear A hI;go_wp2_with fail
  rw [e6.out];refine Q.out.mono ?_;rintro e w3 ⟨rfl,B,y⟩;have S3:=b3.out.fdStep y B;obtain ⟨c0,f0⟩:=S3.cellAt 0;have c7:RS w (w3.setCell ⟨s+2,0,none⟩ (.int .i64 I)) s o1 I 0 [] (.slice none 0 0) []:=S3.set rfl;obtain ⟨W3,d2⟩:∃W3:World,w3.setCell ⟨s+2,0,none⟩ (.int .i64 I)=W3:=⟨_,rfl⟩;rw [d2] at c7;have b4:=Lib.hid c7;have e7:=Lib.hid d2;clear B y S3 c7 d2 Q b3 e6;obtain ⟨T,o2,hT⟩:∃T o2,fT 4 o1=(T,o2):=⟨_,_,rfl⟩;have i5:T≤4294967295:=by have:=lp 4 o1;rw [hT] at this;simp at this;omega
  have A:Calls Tryz.prog 111 #[.pointer (some ⟨s+1,0,none⟩),.int .i64 4] W3 fun e q=>e= .returned (.int .i64 (fT 4 o1).1)∧gu q (s+1) (fT 4 o1).2∧aH (s+1) W3 q:=dN (s+1) 4 o1 W3 b4.out.fd (by decide);rw [hT] at A;have Q:=Lib.hid A;have HT:=Lib.hid hT;clear A hT;go_wp2_with fail
  rw [e7.out];refine Q.out.mono ?_;rintro e w4 ⟨rfl,B,y⟩;have S4:=b4.out.fdStep y B;obtain ⟨c1,f1⟩:=S4.cellAt 1;have c8:RS w (w4.setCell ⟨s+2,1,none⟩ (.int .i64 T)) s o2 I T [] (.slice none 0 0) []:=S4.set rfl;obtain ⟨W4,d3⟩:∃W4:World,w4.setCell ⟨s+2,1,none⟩ (.int .i64 T)=W4:=⟨_,rfl⟩;rw [d3] at c8;have b5:=Lib.hid c8;have e8:=Lib.hid d3;clear B y S4 c8 d3 Q b4 e7 c0 f0;obtain ⟨f,o3,hf⟩:∃f o3,jB 1 o2=(f,o3):=⟨_,_,rfl⟩;have i8:f.length≤255:=by have:=rL 1 o2;rw [hf] at this;simp at this;omega
  have A:Calls Tryz.prog 163 #[.pointer (some ⟨s+1,0,none⟩),.int .i64 1] W4 fun e q=>e= .returned (.string (bs (jB 1 o2).1))∧gu q (s+1) (jB 1 o2).2∧aH (s+1) W4 q:=nY (s+1) 1 o2 W4 b5.out.fd (by decide);rw [hf] at A;have Q:=Lib.hid A;have HF:=Lib.hid hf;have sf:=aI f;clear A hf;go_wp2_with fail
  rw [e8.out];refine Q.out.mono ?_;rintro e w5 ⟨rfl,B,y⟩;have e2:=Lib.hid (b5.out.fdStep y B);have L:=Lib.hid (gV (bs f) w5 (by omega));clear B y Q b5 e8 c1 f1;go_wp2_with fail
  refine L.out.mono ?_;rintro e w6 ⟨rfl,g6⟩;have S6:=e2.out.keep g6;obtain ⟨c2,f2⟩:=S6.cellAt 2;have d0:RS w (w6.setCell ⟨s+2,2,none⟩ (.string (bs f))) s o3 I T f (.slice none 0 0) []:=S6.set rfl;obtain ⟨W6,d4⟩:∃W6:World,w6.setCell ⟨s+2,2,none⟩ (.string (bs f))=W6:=⟨_,rfl⟩;rw [d4] at d0;have b6:=Lib.hid d0;have e9:=Lib.hid d4;clear g6 S6 d0 d4 L e2;obtain ⟨N,o4,hN⟩:∃N o4,fT 1 o3=(N,o4):=⟨_,_,rfl⟩;have l4:N≤255:=by have:=lp 1 o3;rw [hN] at this;simp at this;omega
  have A:Calls Tryz.prog 111 #[.pointer (some ⟨s+1,0,none⟩),.int .i64 1] W6 fun e q=>e= .returned (.int .i64 (fT 1 o3).1)∧gu q (s+1) (fT 1 o3).2∧aH (s+1) W6 q:=dN (s+1) 1 o3 W6 b6.out.fd (by decide);rw [hN] at A;have Q:=Lib.hid A;have HN:=Lib.hid hN;clear A hN;go_wp2_with fail
  rw [e9.out];refine Q.out.mono ?_;rintro e w7 ⟨rfl,B,y⟩;have e3:=Lib.hid (b6.out.fdStep y B);clear B y Q b6 e9 c2 f2;go_wp2_with fail
  obtain ⟨is,i9,g8,g9,h3⟩:=info_parts mQ;go_loopw [19] (fun i q=>∃(k:Nat) (v:Value) (z:List (List UInt8)) (o:Option (List UInt8)),k≤N∧i= .int .i64 k∧Hid (iJ k o4=(z,o))∧Hid (RS w q s o I T f v [])∧Hid (q.ownsRow (s+3) 9 1 v k (az z))) (fun i _=>N - (intOf i).toNat)
  case atStart=>exact ⟨0,_,[],o4,Nat.zero_le _,rfl,Lib.hid rfl,e3,Lib.hid (World.ownsRow_nil _ _ _ _)⟩
  case round=>
   clear e3;obtain ⟨k,v,z,o,hk,rfl,a8,HS,HO⟩:=hrel
   obtain ⟨C,H,F,rfl⟩:∃a n c,v= .slice a n c:=by
    rcases HO.out.2 with ⟨e,_⟩ | ⟨g,l1,l2,e,_⟩
    ·exact ⟨_,_,_,e⟩
    ·exact ⟨_,_,_,e⟩
   by_cases l5:k < N
   ·have k9:(k:Int) < (N:Int):=by omega
    obtain ⟨t,o',ht⟩:∃t o',jB 1 o=(t,o'):=⟨_,_,rfl⟩;have l8:t.length≤255:=by have:=rL 1 o;rw [ht] at this;simp at this;omega
    have st:=aI t;have h6:Hid (iJ (k+1) o4=(z++[t],o')):=Lib.hid (by rw [iJ,a8.out];simp only [ht])
    have h9:Hid (∀q,gu q (s+1) o→Calls Tryz.prog 163 #[.pointer (some ⟨s+1,0,none⟩),.int .i64 1] q fun e P=>e= .returned (.string (bs t))∧gu P (s+1) o'∧aH (s+1) q P):=Lib.hid (fun q h'=>by
     have A:Calls Tryz.prog 163 #[.pointer (some ⟨s+1,0,none⟩),.int .i64 1] q fun e P=>e= .returned (.string (bs (jB 1 o).1))∧gu P (s+1) (jB 1 o).2∧aH (s+1) q P:=nY (s+1) 1 o q h' (by decide);rw [ht] at A
     exact A)
    have L:Hid (∀q,Calls Tryz.prog 69 #[.string (bs t)] q fun e P=>e= .returned (.string (bs t))∧Below q.heap.size q P):=Lib.hid (fun q=>gV (bs t) q (by omega));have Sd:Hid (RS w wr.drew s o I T f (.slice C H F) []):=Lib.hid (HS.out.keep ((Below.refl _ _).drew));have Od:Hid (wr.drew.ownsRow (s+3) 9 1 (.slice C H F) k (az z)):=Lib.hid HO.out.drew;have c3:wr.drew.cell? ⟨s+2,3,none⟩=some (.slice C H F):=(Sd.out.cellAt 3).1;have l0:wr.cell? ⟨s+2,3,none⟩=some (.slice C H F):=(HS.out.cellAt 3).1;clear ht;go_wp2_with fail
    go_region_law (first
     | (refine step_append_lies _ (by rfl) _ _ _ (by rfl) (s+3) 9 is _ 1 16 Tryz.underlying25 i9 g8 g9 h3 rfl (by decide) (.slice C H F) k (az z) (by rfl) (f6.out.alloc _) ⟨J.heap.size,0,none⟩ 1 1 [.string (bs t)] (by rfl) (by rfl) (World.news_of_block (cs:=#[.string (bs t)]) (t:=9) (fr:=(0,0)) (heap_alloc_new J _)) (by simp [Value.oneCell']) (by decide) (by unfold maxLen;omega) (by omega) (by simp;omega) (J.heap.size+1) (by simp) ?_;intro ga E p b0 a3 i6 j2;have b:=Lib.hid (c6.out.ofGrown f6.out ((Below.refl _ _).alloc (Nat.le_refl _) _) a3);have k5:p.cell? ⟨s+2,3,none⟩=some (.slice C H F):=(b.out.cellAt 3).1;have i3:=(b.out.cellAt 3).2;have k6:(p.setCell ⟨s+2,3,none⟩ (.slice (some ⟨ga,0,none⟩) (k+1) E)).cell? ⟨s+2,3,none⟩=some (.slice (some ⟨ga,0,none⟩) (k+1) E):=((b.out.set (u:= .slice (some ⟨ga,0,none⟩) (k+1) E) rfl).cellAt 3).1;have e0:=Lib.hid b0;clear b0 a3 i6)
     | (go_simp;go_at_call 163;refine (h9.out _ Sd.out.fd).mono ?_;rintro e w9 ⟨rfl,B,y⟩;have S9:=Lib.hid (Sd.out.fdStep y B);have O9:=Lib.hid (dy Od.out y (by omega));have c9:w9.cell? ⟨s+2,3,none⟩=some (.slice C H F):=(S9.out.cellAt 3).1;clear B y;dsimp only)
     | (go_simp;go_at_call 69;refine (L.out _).mono ?_;rintro e J ⟨rfl,a2⟩;have c6:=Lib.hid (S9.out.keep a2);have f6:=Lib.hid (dw (cE.below (ts:=[]) a2) (by simp) O9.out);have f8:J.cell? ⟨s+2,3,none⟩=some (.slice C H F):=(c6.out.cellAt 3).1;have m0:=c6.out.size;have k8:∀o:Obj,(J.alloc o).cell? ⟨s+2,3,none⟩=some (.slice C H F):=(fun o=>(((Below.refl J.heap.size J).alloc (Nat.le_refl _) o).cell (aA f8)).trans f8);clear a2;dsimp only))
    all_goals
     have i2:=Lib.hid (b.out.set (j:=3) (u:= .slice (some ⟨ga,0,none⟩) (k+1) E) (I':=I) (T':=T) (f':=f) (B':=[]) (v':= .slice (some ⟨ga,0,none⟩) (k+1) E) rfl);have i1:=Lib.hid (dy e0.out (show aH (s+2) p (p.setCell ⟨s+2,3,none⟩ (.slice (some ⟨ga,0,none⟩) (k+1) E)) from (aH.refl _ _).setCell _) (by omega));clear k5 i3 k6 e0 b;go_wp2_with fail
     exact ⟨⟨k+1,_,z++[t],o',by omega,by go_num,h6,i2,Lib.hid (by rw [show az (z++[t])=az z++[.string (bs t)] by simp [az]];exact i1.out)⟩,by simp [intOf];omega⟩
   ·have j1:k=N:=by omega
    subst j1;have f9:z.length=k:=by have:=wB k o4;rw [a8.out] at this;exact this
    have g5:∀t∈z,t.length < 256:=by have:=Aq k o4;rw [a8.out] at this;exact this
    have e5:=Lib.hid f9;have h8:=Lib.hid g5;obtain ⟨D,o6,hD⟩:∃D o6,jB 2 o=(D,o6):=⟨_,_,rfl⟩;have l3:D.length≤65535:=by have:=rL 2 o;rw [hD] at this;simp at this;omega
    have a5:Hid (mq r=if o6=some [] then some ⟨I,T,f,z,D⟩ else none):=Lib.hid (BB r HI.out HT.out HF.out HN.out a8.out hD);have A:Calls Tryz.prog 163 #[.pointer (some ⟨s+1,0,none⟩),.int .i64 2] wr fun e q=>e= .returned (.string (bs (jB 2 o).1))∧gu q (s+1) (jB 2 o).2∧aH (s+1) wr q:=nY (s+1) 2 o wr HS.out.fd (by decide);rw [hD] at A;have Q:=Lib.hid A;have sD:=aI D;clear A hD f9 g5;go_wp2_with fail
    refine Q.out.mono ?_;rintro e w8 ⟨rfl,B,y⟩;have e4:=Lib.hid (HS.out.fdStep y B);have d9:=Lib.hid (dy HO.out y (by omega));have L:=Lib.hid (gV (bs D) w8 (by omega));clear B y Q HS HO;go_wp2_with fail
    refine L.out.mono ?_;rintro e w9 ⟨rfl,d6⟩;have S9:=e4.out.keep d6;have O9:=dw (cE.below (ts:=[]) d6) (by simp) d9.out;obtain ⟨c4,f4⟩:=S9.cellAt 4;have k0:w9.cell? ⟨s+2,0,none⟩=some (.int .i64 I):=(S9.cellAt 0).1;have k1:w9.cell? ⟨s+2,1,none⟩=some (.int .i64 T):=(S9.cellAt 1).1;have k2:w9.cell? ⟨s+2,2,none⟩=some (.string (bs f)):=(S9.cellAt 2).1;have k3:w9.cell? ⟨s+2,3,none⟩=some (.slice C H F):=(S9.cellAt 3).1;have a9:RS w (w9.setCell ⟨s+2,4,none⟩ (.string (bs D))) s o6 I T f (.slice C H F) D:=S9.set rfl;have c5:(w9.setCell ⟨s+2,4,none⟩ (.string (bs D))).ownsRow (s+3) 9 1 (.slice C H F) k (az z):=dy O9 (show aH (s+2) w9 _ from (aH.refl _ _).setCell _) (by omega);obtain ⟨K,d5⟩:∃K:World,w9.setCell ⟨s+2,4,none⟩ (.string (bs D))=K:=⟨_,rfl⟩;rw [d5] at a9 c5;have d:=Lib.hid a9;have Y:=Lib.hid c5;have b8:=Lib.hid d5;have b2:=Lib.hid (sA (s+1) o6 K a9.fd);clear d6 S9 O9 a9 c5 d5 L e4 d9;go_wp2_with fail
    rw [b8.out];refine b2.out.mono ?_;rintro e J ⟨rfl,rfl⟩
    cases hq:decide (o6=some []) with
    | false=>
     have Z:Hid (bL l=none):=Lib.hid (by rw [S.out,a5.out,if_neg (by simpa using hq)];rfl);have r0:K.cell? ⟨s,0,none⟩=some (.int .i64 0):=(d.out.res.cell 0).1;have g0:=(d.out.res.cell 0).2;have r1:K.cell? ⟨s,1,none⟩=some (.int .i64 0):=(d.out.res.cell 1).1;have g1:=(d.out.res.cell 1).2;have r2:K.cell? ⟨s,2,none⟩=some (.string ⟨#[]⟩):=(d.out.res.cell 2).1;have g2:=(d.out.res.cell 2).2;have r3:K.cell? ⟨s,3,none⟩=some (.slice none 0 0):=(d.out.res.cell 3).1;have g3:=(d.out.res.cell 3).2;have r4:K.cell? ⟨s,4,none⟩=some (.string ⟨#[]⟩):=(d.out.res.cell 4).1;have g4:=(d.out.res.cell 4).2;have h5:=Lib.hid d.out.below;clear d Y b8 b2 k0 k1 k2 k3 c4 f4 S a5 hq;go_wp2_with fail
     refine bodyPost_ret (v:= .tuple #[.agg (aV kv (.slice none 0 0)),.bool false]) (by simp [results,Tryz.results114,go_sem,kv,aV,bs, *]) rfl ?_;refine ⟨.inl ⟨Z.out,rfl⟩,?_⟩;rw [U.out];exact ((((h5.out.setCell (Nat.le_refl _) _).setCell (Nat.le_refl _) _).setCell (Nat.le_refl _) _).setCell (Nat.le_refl _) _).setCell (Nat.le_refl _) _
    | true=>
     have d7:dq ⟨I,T,f,z,D⟩:=⟨i4,i5,i8,by show z.length≤255;have:=e5.out;omega,fun x hx=>by have:=h8.out x hx;omega,by show D.length≤1048576;omega⟩
     have d1:(⟨I,T,f,z,D⟩:aR).tos.length=k:=e5.out;have b1:aZ K (.slice C H F) (⟨I,T,f,z,D⟩:aR).tos.length 1 (az (⟨I,T,f,z,D⟩:aR).tos):=by rw [d1];exact tE Y.out
     have g7:K.cell? ⟨0,0,none⟩=some (.int .i64 m):=(d.out.below.cell (by rw [←U.out];exact aA hm)).trans hm;have M:=Lib.hid (zD ⟨I,T,f,z,D⟩ (.slice C H F) m K b1 d7 g7);have a7:Hid (bL l=if de ⟨I,T,f,z,D⟩ then some ⟨I,T,f,z,D⟩ else none):=Lib.hid (by rw [S.out,a5.out,if_pos (by simpa using hq)];rfl);have q0:K.cell? ⟨s+2,0,none⟩=some (.int .i64 I):=(d.out.cellAt 0).1;have q1:K.cell? ⟨s+2,1,none⟩=some (.int .i64 T):=(d.out.cellAt 1).1;have q2:K.cell? ⟨s+2,2,none⟩=some (.string (bs f)):=(d.out.cellAt 2).1;have q3:K.cell? ⟨s+2,3,none⟩=some (.slice C H F):=(d.out.cellAt 3).1;have q4:K.cell? ⟨s+2,4,none⟩=some (.string (bs D)):=(d.out.cellAt 4).1;have i0:=Lib.hid d7;have h7:=Lib.hid d1;simp only [aV] at M;clear d7 d1 b1 g7 b8 b2 k0 k1 k2 k3 c4 f4 S a5 hq
     cases hM:de ⟨I,T,f,z,D⟩ with
     | false=>
      have Z:Hid (bL l=none):=Lib.hid (by rw [a7.out,hM];rfl);rw [hM] at M;clear hM a7;go_wp2_with fail
      refine M.out.mono ?_;rintro e p ⟨rfl,G⟩;have b:=d.out.keep G;have r0:p.cell? ⟨s,0,none⟩=some (.int .i64 0):=(b.res.cell 0).1;have g0:=(b.res.cell 0).2;have r1:p.cell? ⟨s,1,none⟩=some (.int .i64 0):=(b.res.cell 1).1;have g1:=(b.res.cell 1).2;have r2:p.cell? ⟨s,2,none⟩=some (.string ⟨#[]⟩):=(b.res.cell 2).1;have g2:=(b.res.cell 2).2;have r3:p.cell? ⟨s,3,none⟩=some (.slice none 0 0):=(b.res.cell 3).1;have g3:=(b.res.cell 3).2;have r4:p.cell? ⟨s,4,none⟩=some (.string ⟨#[]⟩):=(b.res.cell 4).1;have g4:=(b.res.cell 4).2;have X:=Lib.hid b.below;clear b G d Y M q0 q1 q2 q3 q4;go_wp2_with fail
      refine bodyPost_ret (v:= .tuple #[.agg (aV kv (.slice none 0 0)),.bool false]) (by simp [results,Tryz.results114,go_sem,kv,aV,bs, *]) rfl ?_;refine ⟨.inl ⟨Z.out,rfl⟩,?_⟩;rw [U.out];exact ((((X.out.setCell (Nat.le_refl _) _).setCell (Nat.le_refl _) _).setCell (Nat.le_refl _) _).setCell (Nat.le_refl _) _).setCell (Nat.le_refl _) _
     | true=>
      have Z:Hid (bL l=some ⟨I,T,f,z,D⟩):=Lib.hid (by rw [a7.out,hM];rfl);rw [hM] at M;clear hM a7;go_wp2_with fail
      refine M.out.mono ?_;rintro e p ⟨rfl,G⟩;have b:=d.out.keep G;have f7:=dw (cE.below (ts:=[]) G) (by simp) Y.out;have r0:p.cell? ⟨s,0,none⟩=some (.int .i64 0):=(b.res.cell 0).1;have g0:=(b.res.cell 0).2;have r1:p.cell? ⟨s,1,none⟩=some (.int .i64 0):=(b.res.cell 1).1;have g1:=(b.res.cell 1).2;have r2:p.cell? ⟨s,2,none⟩=some (.string ⟨#[]⟩):=(b.res.cell 2).1;have g2:=(b.res.cell 2).2;have r3:p.cell? ⟨s,3,none⟩=some (.slice none 0 0):=(b.res.cell 3).1;have g3:=(b.res.cell 3).2;have r4:p.cell? ⟨s,4,none⟩=some (.string ⟨#[]⟩):=(b.res.cell 4).1;have g4:=(b.res.cell 4).2;have p0:p.cell? ⟨s+2,0,none⟩=some (.int .i64 I):=(b.cellAt 0).1;have p1:p.cell? ⟨s+2,1,none⟩=some (.int .i64 T):=(b.cellAt 1).1;have p2:p.cell? ⟨s+2,2,none⟩=some (.string (bs f)):=(b.cellAt 2).1;have p3:p.cell? ⟨s+2,3,none⟩=some (.slice C H F):=(b.cellAt 3).1;have p4:p.cell? ⟨s+2,4,none⟩=some (.string (bs D)):=(b.cellAt 4).1;have X:=Lib.hid b.below;have d8:=Lib.hid f7;have k7:=Lib.hid b.res;clear b f7 G d Y M q0 q1 q2 q3 q4;go_wp2_with fail
      refine bodyPost_ret (v:= .tuple #[.agg (aV ⟨I,T,f,z,D⟩ (.slice C H F)),.bool true]) (by simp [results,Tryz.results114,go_sem,aV, *]) rfl ?_;refine ⟨.inr ⟨⟨I,T,f,z,D⟩,.slice C H F,Z.out,rfl,?_,i0.out⟩,?_⟩
      ·rw [U.out,h7.out];refine World.ownsRow.mono (base:=s+3) ?_ (by omega);have hS:∀(u:World) (j:Nat) (x:Value),u.ownsRow (s+3) 9 1 (.slice C H F) k (az z)→(u.setCell ⟨s,j,none⟩ x).ownsRow (s+3) 9 1 (.slice C H F) k (az z):=fun u j x h=>dy h (show aH s u _ from (aH.refl _ _).setCell _) (by omega);exact hS _ _ _ (hS _ _ _ (hS _ _ _ (hS _ _ _ (hS _ _ _ d8.out))))
      ·rw [U.out];exact ((((X.out.setCell (Nat.le_refl _) _).setCell (Nat.le_refl _) _).setCell (Nat.le_refl _) _).setCell (Nat.le_refl _) _).setCell (Nat.le_refl _) _
 ·have S:Hid (bL l=none):=Lib.hid (by
   cases l with
   | nil=>rfl
   | cons c r=>
    have A:¬c=77:=fun e=>a0 (by rw [e];rfl);unfold bL;simp only
    rw [if_neg A])
  have m1:((bs (gy ((some l).bind (bg 1)))).toList == [77])=false:=by
   rw [pM]
   cases l with
   | nil=>rfl
   | cons c r=>
    have A:¬c=77:=fun e=>a0 (by rw [e];rfl);show ([c] == [77])=false;simpa using A
  obtain ⟨t,et⟩:∃t,gy ((some l).bind (bg 1))=t:=⟨_,rfl⟩;rw [et] at m1 R;clear a0 et;go_enter Tryz.func114,Tryz.ntmps114;go_wp2_with fail
  rw [b7.out];refine R.out.mono ?_;rintro e W ⟨rfl,B,y⟩;have O:=a6.out.same y (by omega);have k0:W.cell? ⟨s,0,none⟩=some (.int .i64 0):=(O.cell 0).1;have k1:W.cell? ⟨s,1,none⟩=some (.int .i64 0):=(O.cell 1).1;have k2:W.cell? ⟨s,2,none⟩=some (.string ⟨#[]⟩):=(O.cell 2).1;have k3:W.cell? ⟨s,3,none⟩=some (.slice none 0 0):=(O.cell 3).1;have k4:W.cell? ⟨s,4,none⟩=some (.string ⟨#[]⟩):=(O.cell 4).1;have f0:=(O.cell 0).2;have f1:=(O.cell 1).2;have f2:=(O.cell 2).2;have f3:=(O.cell 3).2;have f4:=(O.cell 4).2;have h4:=Lib.hid (a4.out.trans (y.below (by omega)));clear B y O R a6 a4;go_wp2_with fail
  refine bodyPost_ret (v:= .tuple #[.agg (aV kv (.slice none 0 0)),.bool false]) (by simp [results,Tryz.results114,go_sem,kv,aV,bs, *]) rfl ?_;refine ⟨.inl ⟨S.out,rfl⟩,?_⟩;rw [U.out];exact ((((h4.out.setCell (Nat.le_refl _) _).setCell (Nat.le_refl _) _).setCell (Nat.le_refl _) _).setCell (Nat.le_refl _) _).setCell (Nat.le_refl _) _
def ni (w:World) (q:Nat) (I:Nat) (v:Value):Prop:=w.heap[q]? =some (.cells #[.int .i64 I,v] 193 (0,0))
theorem ni.cell {w:World} {q I:Nat} {v:Value} (h:ni w q I v) (j:Nat):w.cell? ⟨q,j,none⟩=(#[.int .i64 I,v]:Array Value)[j]? ∧w.frozen? ⟨q,j,none⟩=false:=
 ⟨Lib.cell_of_heap h j,Lib.frozen_of_heap h j⟩
def iW (o:Option (List UInt8)):Option (Nat×List Nat):=o.bind dJ
def yp (b:Nat) (o:Option (List UInt8)) (w:World) (e:Ending) (w':World):Prop:=
 (iW o=none∧e= .returned (.tuple #[.agg #[.int .i64 0,.slice none 0 0],.bool false])∨∃id ps v,iW o=some (id,ps)∧e= .returned (.tuple #[.agg #[.int .i64 (id:Nat),v],.bool true])∧w'.ownsRow w.heap.size 3 1 v ps.length (aX ps)∧id≤4294967295∧1≤ps.length∧ps.length≤255∧∀x∈ps,x≤255)∧qN b w w'
theorem uH (o:Option (List UInt8)) {g i e:Option (List UInt8)} {I N:Nat} {a:List Nat} (b:fT 4 o=(I,g)) (c:fT 1 g=(N,i)) (f:ij N i=(a,e)):iW o=if e=some []∧1≤a.length∧bC a=true then some (I,a) else none:=by
 cases o with
 | none=>
  rw [jR] at b;injection b with _ b;subst b;rw [jR] at c;injection c with _ c;subst c;have:=lr N;rw [f] at this;simp only at this;rw [if_neg (by rw [this];rintro ⟨h,_⟩;cases h)];rfl
 | some r=>
  show dJ r=_;unfold dJ;rw [Bx r b c f]
  by_cases h:e=some []
  ·rw [if_pos h,sb]
   by_cases d:1≤a.length∧bC a=true
   ·rw [if_pos (by simp only [Bool.and_eq_true,decide_eq_true_eq];exact d),if_pos ⟨h,d⟩]
   ·rw [if_neg (by simp only [Bool.and_eq_true,decide_eq_true_eq];exact d),if_neg (fun k=>d k.2)]
  ·rw [if_neg h,if_neg (fun k=>h k.1)];rfl
theorem qN.drewN {b:Nat} {w c:World} (h:qN b w c) (n:Nat):qN b w (c.drewN n):=
 ⟨by simpa using h.size,fun k d a=>by simpa using h.block k d a,h.still.trans (kl n c)⟩
theorem qN.setNew {b p:Nat} {w c:World} (h:qN b w c) (e:w.heap.size≤p) {j:Nat} (v:Value):qN b w (c.setCell ⟨p,j,none⟩ v):=
 ⟨by simpa using h.size,fun k d a=>(heap_setCell_other c ⟨p,j,none⟩ k v (by show k≠p;omega)).trans (h.block k d a),h.still.trans ⟨rfl,rfl,rfl⟩⟩
structure LS (w wk:World) (s b:Nat) (o:Option (List UInt8)) (I:Nat) (v:Value):Prop where
 fd:gu wk b o
 res:ni wk s 0 (.slice none 0 0)
 lv:ni wk (s+1) I v
 but:qN b w wk
 size:s+2≤wk.heap.size
theorem LS.fdStep {w e a:World} {s b I:Nat} {o d:Option (List UInt8)} {v:Value} (h:LS w e s b o I v) (i:b < s) (c:aH b e a) (f:gu a b d):LS w a s b d I v:=
 ⟨f,(c.2 s (by omega)).trans h.res,(c.2 (s+1) (by omega)).trans h.lv,h.but.trans ⟨by rw [c.1];exact Nat.le_refl _,fun k _ g=>c.2 k g,c.3⟩,by rw [c.1];exact h.size⟩
theorem LS.keep {w e c:World} {s b I:Nat} {o:Option (List UInt8)} {v:Value} (h:LS w e s b o I v) (f:b < s) (a:Below e.heap.size e c):LS w c s b o I v:=by
 have g:=h.size;exact ⟨h.fd.blk (a.block b (by omega)),(a.block s (by omega)).trans h.res,(a.block (s+1) (by omega)).trans h.lv,h.but.trans ⟨a.size,fun k d _=>a.block k d,dI.of_below a⟩,Nat.le_trans h.size a.size⟩
theorem LS.set {w c:World} {s b I I' j:Nat} {o:Option (List UInt8)} {v v' u:Value} (h:LS w c s b o I v) (i:w.heap.size≤s+1) (g:b < s) (e:(#[.int .i64 I,v]:Array Value).setIfInBounds j u=#[.int .i64 I',v']):LS w (c.setCell ⟨s+1,j,none⟩ u) s b o I' v':=by
 have a:aH (s+1) c (c.setCell ⟨s+1,j,none⟩ u):=(aH.refl _ _).setCell _;refine ⟨h.fd.same a (by omega),(a.2 s (by omega)).trans h.res,?_,⟨by rw [a.1];exact h.but.size,fun k f d=>(a.2 k (by omega)).trans (h.but.block k f d),h.but.still.trans a.3⟩,by rw [a.1];exact h.size⟩
 have:=heap_setCell_same c (s+1) j _ _ u h.lv;unfold ni;rw [this,e]
theorem LS.ofGrown {w g p l:World} {s b I n:Nat} {o:Option (List UInt8)} {v:Value} {t:List Value} (h:LS w g s b o I v) (x:w.heap.size≤s) (u:b < s) (q:g.ownsRow (s+2) 3 1 v n t) (d:Below g.heap.size g p) (c:p.grownBy l v.ownBlock):LS w l s b o I v:=by
 have y:=h.size;have f:∀j,v.ownBlock=some j→s+2≤j:=fun j r=>(q.lt j r).1
 have a:∀k,k < s+2→l.heap[k]? =g.heap[k]? :=fun k m=>by
  rw [c.block k (by have:=d.size;omega) (fun e=>by have:=f k e.symm;omega),d.block k (by omega)]
 exact ⟨h.fd.blk (a _ (by omega)),(a s (by omega)).trans h.res,(a (s+1) (by omega)).trans h.lv,⟨by have:=d.size;have:=c.size;have:=h.but.size;omega,fun k m i=>(a k (by omega)).trans (h.but.block k m i),h.but.still.trans ((dI.of_below d).trans ⟨c.os,c.tape,c.output⟩)⟩,by have:=d.size;have:=c.size;omega⟩
theorem qw (b:Nat) (o:Option (List UInt8)) (w:World) (h:gu w b o) (R:b < w.heap.size):
  Calls Tryz.prog 167 #[.pointer (some ⟨b,0,none⟩)] w (yp b o w):=by
 obtain ⟨s,hs⟩:∃s,w.heap.size=s:=⟨_,rfl⟩;rw [hs] at R;have HH:=Lib.hid h;have d:=Lib.hid hs;clear h;go_enter Tryz.func167,Tryz.ntmps167;go_wp2_with fail
 obtain ⟨X,z⟩:∃X:World,(w.alloc (.cells #[.int .i64 0,.slice none 0 0] 193)).alloc (.cells #[.int .i64 0,.slice none 0 0] 193)=X:=⟨_,rfl⟩
 have S0:LS w X s b o 0 (.slice none 0 0):=by
  have P:Below w.heap.size w X:=by rw [←z];exact ((Below.refl _ _).alloc (Nat.le_refl _) _).alloc (by simp) _
  refine ⟨HH.out.blk (P.block b (by omega)),?_,?_,⟨P.size,fun k hk _=>P.block k hk,dI.of_below P⟩,by rw [←z];simp;omega⟩
  ·unfold ni;rw [←z,←hs,((Below.refl (w.alloc (.cells #[.int .i64 0,.slice none 0 0] 193)).heap.size _).alloc (Nat.le_refl _) _).block w.heap.size (by simp)];exact heap_alloc_new w _
  ·unfold ni;rw [←z,←hs];have:=heap_alloc_new (w.alloc (.cells #[.int .i64 0,.slice none 0 0] 193)) (.cells #[.int .i64 0,.slice none 0 0] 193);simpa using this
 have U:=Lib.hid S0;rw [z];obtain ⟨I,T,hI⟩:∃I T,fT 4 o=(I,T):=⟨_,_,rfl⟩;have b5:I≤4294967295:=by have:=lp 4 o;rw [hI] at this;simp at this;omega
 have J:Calls Tryz.prog 111 #[.pointer (some ⟨b,0,none⟩),.int .i64 4] X fun e m=>e= .returned (.int .i64 (fT 4 o).1)∧gu m b (fT 4 o).2∧aH b X m:=dN b 4 o X U.out.fd (by decide);rw [hI] at J;have HI:=Lib.hid hI;clear hI S0 z;refine J.mono ?_;rintro e w3 ⟨rfl,Q,O⟩;have S3:=U.out.fdStep R O Q;obtain ⟨c0,f0⟩:=S3.lv.cell 0;have W:LS w (w3.setCell ⟨s+1,0,none⟩ (.int .i64 I)) s b T I (.slice none 0 0):=S3.set (by omega) R rfl;obtain ⟨W3,Y⟩:∃W3:World,w3.setCell ⟨s+1,0,none⟩ (.int .i64 I)=W3:=⟨_,rfl⟩;rw [Y] at W;have V:=Lib.hid W;have a2:=Lib.hid Y;clear Q O S3 W Y J U HH;obtain ⟨N,Z,hN⟩:∃N Z,fT 1 T=(N,Z):=⟨_,_,rfl⟩;have d4:N≤255:=by have:=lp 1 T;rw [hN] at this;simp at this;omega
 have J:Calls Tryz.prog 111 #[.pointer (some ⟨b,0,none⟩),.int .i64 1] W3 fun e m=>e= .returned (.int .i64 (fT 1 T).1)∧gu m b (fT 1 T).2∧aH b W3 m:=dN b 1 T W3 V.out.fd (by decide);rw [hN] at J;have HC:=Lib.hid J;have HN:=Lib.hid hN;clear J hN;go_wp2_with fail
 rw [a2.out];refine HC.out.mono ?_;rintro e w7 ⟨rfl,Q,O⟩;have a1:=Lib.hid (V.out.fdStep R O Q);clear Q O HC V a2 c0 f0;go_wp2_with fail
 obtain ⟨ii,b8,a6,a7,a8⟩:=info_parts DG;go_loopw [10] (fun i m=>∃(k:Nat) (v:Value) (f:List Nat) (p:Option (List UInt8)),k≤N∧i= .int .i64 k∧Hid (ij k Z=(f,p))∧Hid (LS w m s b p I v)∧Hid (m.ownsRow (s+2) 3 1 v k (aX f))) (fun i _=>N - (intOf i).toNat)
 case atStart=>exact ⟨0,_,[],Z,Nat.zero_le _,rfl,Lib.hid rfl,a1,Lib.hid (World.ownsRow_nil _ _ _ _)⟩
 case round=>
  clear a1;obtain ⟨k,v,f,p,hk,rfl,L,H,HO⟩:=hrel;have a3:f.length=k:=by have:=vZ k Z;rw [L.out] at this;exact this
  have B:=Lib.hid a3
  obtain ⟨r,y,rfl⟩:∃a c,v= .slice a k c:=by
   rcases HO.out.2 with ⟨e,h0⟩ | ⟨g,d2,d3,e,_⟩
   ·exact ⟨_,_,by rw [h0];exact e⟩
   ·exact ⟨_,_,e⟩
  clear a3
  by_cases d5:k < N
  ·have c7:(k:Int) < (N:Int):=by omega
   obtain ⟨x,p',hx⟩:∃x p',fT 1 p=(x,p'):=⟨_,_,rfl⟩;have a9:Hid (ij (k+1) Z=(f++[x],p')):=Lib.hid (by rw [ij,L.out];simp only [hx])
   have b1:Hid (∀m,gu m b p→Calls Tryz.prog 111 #[.pointer (some ⟨b,0,none⟩),.int .i64 1] m fun e F=>e= .returned (.int .i64 (x:Int))∧gu F b p'∧aH b m F):=Lib.hid (fun m h'=>by
    have J:Calls Tryz.prog 111 #[.pointer (some ⟨b,0,none⟩),.int .i64 1] m fun e F=>e= .returned (.int .i64 (fT 1 p).1)∧gu F b (fT 1 p).2∧aH b m F:=dN b 1 p m h' (by decide);rw [hx] at J
    exact J)
   have Sd:Hid (LS w wr.drew s b p I (.slice r k y)):=Lib.hid (H.out.keep R ((Below.refl _ _).drew));have Od:Hid (wr.drew.ownsRow (s+2) 3 1 (.slice r k y) k (aX f)):=Lib.hid HO.out.drew;have c3:wr.drew.cell? ⟨s+1,1,none⟩=some (.slice r k y):=(Sd.out.lv.cell 1).1;clear hx;go_wp2_with fail
   go_region_law (first
    | (refine step_append_lies _ (by rfl) _ _ _ (by rfl) (s+2) 3 ii _ 1 8 Tryz.underlying28 b8 a6 a7 a8 rfl (by decide) (.slice r k y) k (aX f) (by rfl) (O9.out.alloc _) ⟨w9.heap.size,0,none⟩ 1 1 [.int .i64 (x:Int)] (by rfl) (by rfl) (World.news_of_block (cs:=#[.int .i64 (x:Int)]) (t:=3) (fr:=(0,0)) (heap_alloc_new w9 _)) (by simp [Value.oneCell']) (by decide) (by unfold maxLen;omega) (by omega) (by simp;omega) (w9.heap.size+1) (by simp) ?_;intro ga C G S D b6 c2;have M:=Lib.hid (S9.out.ofGrown (by rw [d.out];exact Nat.le_refl _) R O9.out ((Below.refl _ _).alloc (Nat.le_refl _) _) D);have c5:G.cell? ⟨s+1,1,none⟩=some (.slice r k y):=(M.out.lv.cell 1).1;have b4:=(M.out.lv.cell 1).2;have a0:=Lib.hid S;clear S D b6)
    | (go_simp;go_at_call 111;refine (b1.out _ Sd.out.fd).mono ?_;rintro e w9 ⟨rfl,Q,O⟩;have S9:=Lib.hid (Sd.out.fdStep R O Q);have O9:=Lib.hid (dy Od.out O (by omega));have c9:w9.cell? ⟨s+1,1,none⟩=some (.slice r k y):=(S9.out.lv.cell 1).1;have z9:=S9.out.size;have c8:∀o:Obj,(w9.alloc o).cell? ⟨s+1,1,none⟩=some (.slice r k y):=(fun o=>(((Below.refl w9.heap.size w9).alloc (Nat.le_refl _) o).cell (aA c9)).trans c9);clear Q O;dsimp only))
   all_goals
    have b3:=Lib.hid (M.out.set (j:=1) (u:= .slice (some ⟨ga,0,none⟩) (k+1) C) (I':=I) (v':= .slice (some ⟨ga,0,none⟩) (k+1) C) (by rw [d.out];omega) R rfl);have b2:=Lib.hid (dy a0.out (show aH (s+1) G (G.setCell ⟨s+1,1,none⟩ (.slice (some ⟨ga,0,none⟩) (k+1) C)) from (aH.refl _ _).setCell _) (by omega));clear c5 b4 a0 M;go_wp2_with fail
    exact ⟨⟨k+1,_,f++[x],p',by omega,by go_num,a9,b3,Lib.hid (by rw [uM];exact b2.out)⟩,by simp [intOf];omega⟩
  ·have c1:k=N:=by omega
   subst c1;have l:Hid (iW o=if p=some []∧1≤f.length∧bC f=true then some (I,f) else none):=Lib.hid (uH o HI.out HN.out L.out);have a4:∀x∈f,x < 256:=by have:=zM k Z;rw [L.out] at this;exact this
   have b0:=Lib.hid a4;have A:=Lib.hid (sA b p wr H.out.fd);have d0:wr.cell? ⟨s+1,0,none⟩=some (.int .i64 I):=(H.out.lv.cell 0).1;have d1:wr.cell? ⟨s+1,1,none⟩=some (.slice r k y):=(H.out.lv.cell 1).1;have r0:wr.cell? ⟨s,0,none⟩=some (.int .i64 0):=(H.out.res.cell 0).1;have g0:=(H.out.res.cell 0).2;have r1:wr.cell? ⟨s,1,none⟩=some (.slice none 0 0):=(H.out.res.cell 1).1;have g1:=(H.out.res.cell 1).2;have HB:=Lib.hid H.out.but;have HX:=Lib.hid H.out.lv;clear a4;go_wp2_with fail
   refine A.out.mono ?_;rintro e d6 ⟨rfl,rfl⟩
   cases hq:decide (p=some []) with
   | false=>
    have q:Hid (iW o=none):=Lib.hid (by rw [l.out,if_neg (by rintro ⟨h,_⟩;simp [h] at hq)]);clear l hq A;go_wp2_with fail
    refine bodyPost_ret (v:= .tuple #[.agg #[.int .i64 0,.slice none 0 0],.bool false]) (by simp [results,Tryz.results167,go_sem, *]) rfl ?_;exact ⟨.inl ⟨q.out,rfl⟩,(HB.out.setNew (by rw [d.out];exact Nat.le_refl _) _).setNew (by rw [d.out];exact Nat.le_refl _) _⟩
   | true=>
    by_cases a5:k=0
    ·have q:Hid (iW o=none):=Lib.hid (by rw [l.out,if_neg (by rintro ⟨_,h,_⟩;have:=B.out;omega)]);have b7:((k:Int) == 0)=true:=by rw [a5];rfl
     clear l hq A;go_wp2_with fail
     refine bodyPost_ret (v:= .tuple #[.agg #[.int .i64 0,.slice none 0 0],.bool false]) (by simp [results,Tryz.results167,go_sem, *]) rfl ?_;exact ⟨.inl ⟨q.out,rfl⟩,(HB.out.setNew (by rw [d.out];exact Nat.le_refl _) _).setNew (by rw [d.out];exact Nat.le_refl _) _⟩
    ·have b7:((k:Int) == 0)=false:=by rw [beq_eq_false_iff_ne];omega
     have E:aZ wr (.slice r k y) f.length 1 (aX f):=by rw [B.out];exact tE HO.out
     have K:=Lib.hid (xD (.slice r k y) f wr E (by have:=B.out;omega));have c6:¬k=0:=a5
     cases hR:bC f with
     | false=>
      have q:Hid (iW o=none):=Lib.hid (by rw [l.out,if_neg (by rintro ⟨_,_,h⟩;rw [hR] at h;cases h)]);rw [hR] at K;clear l hq A hR E;go_wp2_with fail
      refine K.out.mono ?_;rintro e G ⟨rfl,n,rfl⟩;go_wp2_with fail
      refine bodyPost_ret (v:= .tuple #[.agg #[.int .i64 0,.slice none 0 0],.bool false]) (by simp [results,Tryz.results167,go_sem, *]) rfl ?_;exact ⟨.inl ⟨q.out,rfl⟩,((HB.out.drewN n).setNew (by rw [d.out];exact Nat.le_refl _) _).setNew (by rw [d.out];exact Nat.le_refl _) _⟩
     | true=>
      have q:Hid (iW o=some (I,f)):=Lib.hid (by rw [l.out,if_pos ⟨by simpa using hq,by have:=B.out;omega,hR⟩]);rw [hR] at K;clear l hq A hR E;go_wp2_with fail
      refine K.out.mono ?_;rintro e G ⟨rfl,n,rfl⟩;go_wp2_with fail
      refine bodyPost_ret (v:= .tuple #[.agg #[.int .i64 I,.slice r k y],.bool true]) (by simp [results,Tryz.results167,go_sem, *]) rfl ?_;have c4:=B.out;refine ⟨.inr ⟨I,f,.slice r k y,q.out,rfl,?_,b5,by omega,by omega,fun x hx=>by have:=b0.out x hx;omega⟩,((HB.out.drewN n).setNew (by rw [d.out];exact Nat.le_refl _) _).setNew (by rw [d.out];exact Nat.le_refl _) _⟩
      rw [d.out,c4];refine World.ownsRow.mono (base:=s+2) ?_ (by omega);have hS:∀(u:World) (j:Nat) (x:Value),u.ownsRow (s+2) 3 1 (.slice r k y) k (aX f)→(u.setCell ⟨s,j,none⟩ x).ownsRow (s+2) 3 1 (.slice r k y) k (aX f):=fun u j x h=>dy h (show aH s u _ from (aH.refl _ _).setCell _) (by omega);exact hS _ _ _ (hS _ _ _ (dw ((cE.refl [] wr).drewN n) (by simp) HO.out))
def IJ (w w':World) (id:Nat) (ps:List Nat) (v:Value):Prop:=w'.ownsRow w.heap.size 3 1 v ps.length (aX ps)∧id≤4294967295∧1≤ps.length∧ps.length≤255∧∀x∈ps,x≤255
def wG (l:List UInt8) (w:World) (e:Ending) (w':World):Prop:=
 (db l=none∧e= .returned (.tuple #[.agg #[.int .i64 0,.slice none 0 0],.bool false])∨∃id ps v,db l=some (id,ps)∧e= .returned (.tuple #[.agg #[.int .i64 (id:Nat),v],.bool true])∧IJ w w' id ps v)∧Below w.heap.size w w'
def rT (l:List UInt8) (w:World) (e:Ending) (w':World):Prop:=
 (bO l=none∧e= .returned (.tuple #[.int .i64 0,.agg #[.int .i64 0,.slice none 0 0],.bool false])∨∃T id ps v,bO l=some (T,id,ps)∧e= .returned (.tuple #[.int .i64 (T:Nat),.agg #[.int .i64 (id:Nat),v],.bool true])∧IJ w w' id ps v∧T≤1000000000)∧Below w.heap.size w w'
theorem wy {w b:World} {s:Nat} {l:List UInt8} (c:w.heap.size=s) (d:l.length≤1048576) (a:(w.alloc (.cells #[.int .i64 0,.slice none 0 0] 193)).alloc (.cells #[.string (bs l),.bool false] 187)=b):
  gu b (s+1) (some l)∧ni b s 0 (.slice none 0 0)∧Below s w b∧b.heap.size=s+2:=by
 refine ⟨⟨by rw [←a,←c];have:=heap_alloc_new (w.alloc (.cells #[.int .i64 0,.slice none 0 0] 193)) (.cells #[.string (bs l),.bool false] 187);simpa using this,by unfold maxLen;omega⟩,?_,?_,?_⟩
 ·unfold ni;rw [←a,←c,((Below.refl (w.alloc (.cells #[.int .i64 0,.slice none 0 0] 193)).heap.size _).alloc (Nat.le_refl _) _).block w.heap.size (by simp)];exact heap_alloc_new w _
 ·rw [←a];exact ((Below.refl _ _).alloc (by omega) _).alloc (by simp;omega) _
 ·rw [←a,←c];simp
theorem mU {s k j n:Nat} {u:World} {v x:Value} {a:List Value} (h:u.ownsRow (s+2) 3 1 v n a) (b:k < s+2):(u.setCell ⟨k,j,none⟩ x).ownsRow (s+2) 3 1 v n a:=dy h (show aH k u _ from (aH.refl _ _).setCell _) b
theorem lx (l:List UInt8) (w:World) (hl:l.length≤1048576):Calls Tryz.prog 116 #[.string (bs l)] w (wG l w):=by
 have sl:=aI l;obtain ⟨s,hs⟩:∃s,w.heap.size=s:=⟨_,rfl⟩;obtain ⟨M,z⟩:∃M:World,(w.alloc (.cells #[.int .i64 0,.slice none 0 0] 193)).alloc (.cells #[.string (bs l),.bool false] 187)=M:=⟨_,rfl⟩;obtain ⟨Q,T,O,U⟩:=wy hs hl z;have j:=iB (s+1) 1 (some l) M Q (by decide);have x:=Lib.hid z;have n:=Lib.hid hs;have m:=Lib.hid T;have k:=Lib.hid O;have E:=Lib.hid U;clear z Q T O U
 by_cases f:l.take 1=[71]
 ·obtain ⟨r,Z⟩:∃r,l.drop 1=r:=⟨_,rfl⟩;have S:Hid (l=71::r):=Lib.hid (by rw [←List.take_append_drop 1 l,f,Z];rfl);have W:(some l).bind (bg 1)=some ([71],r):=by show bg 1 l=_;rw [S.out];rfl
  have b:Hid (db l=dJ r):=Lib.hid (by rw [S.out];unfold db;simp only;rw [if_pos trivial]);rw [W] at j;have m1:((bs (gy (some ([71],r)))).toList == [71])=true:=by show ((bs [71]).toList == [71])=true;rw [pM];rfl
  have d:=Lib.hid j;clear j W Z f;go_enter Tryz.func116,Tryz.ntmps116;go_wp2_with fail
  rw [x.out];refine d.out.mono ?_;rintro e p ⟨rfl,B,i⟩;have R:gu p (s+1) (some r):=B;have o:ni p s 0 (.slice none 0 0):=(i.2 s (by omega)).trans m.out;have P:=k.out.trans (i.below (by omega));have V:p.heap.size=s+2:=i.1.trans E.out;have D:=Lib.hid (qw (s+1) (some r) p R (by omega));have L:=Lib.hid o;have q:=Lib.hid P;have y:=Lib.hid V;clear B i R o P V d m k E x;go_wp2_with fail
  refine D.out.mono ?_;rintro e K ⟨A,h⟩;have F:ni K s 0 (.slice none 0 0):=(h.block s (by have:=y.out;omega) (by omega)).trans L.out;have r0:K.cell? ⟨s,0,none⟩=some (.int .i64 0):=(F.cell 0).1;have g0:=(F.cell 0).2;have r1:K.cell? ⟨s,1,none⟩=some (.slice none 0 0):=(F.cell 1).1;have g1:=(F.cell 1).2;have C:Hid (Below s w K):=Lib.hid (q.out.trans (h.below (by omega) (by have:=y.out;omega)));clear h F D
  rcases A with ⟨G,rfl⟩ | ⟨N,H,v,G,rfl,J,B,i,h3,Y⟩
  ·have u:Hid (db l=none):=Lib.hid (by rw [b.out];exact G);clear G b;go_wp2_with fail
   refine bodyPost_ret (v:= .tuple #[.agg #[.int .i64 0,.slice none 0 0],.bool false]) (by simp [results,Tryz.results116,go_sem, *]) rfl ?_;refine ⟨.inl ⟨u.out,rfl⟩,?_⟩;rw [n.out];exact (C.out.setCell (Nat.le_refl _) _).setCell (Nat.le_refl _) _
  ·have u:Hid (db l=some (N,H)):=Lib.hid (by rw [b.out];exact G);rw [y.out] at J;have HO:=Lib.hid J;have H4:=Lib.hid Y
   obtain ⟨a,I,rfl⟩:∃a I,v= .slice a H.length I:=by
    rcases J.2 with ⟨e,h0⟩ | ⟨g,a0,a1,e,_⟩
    ·exact ⟨_,_,by rw [h0];exact e⟩
    ·exact ⟨_,_,e⟩
   clear G b J Y;go_wp2_with fail
   refine bodyPost_ret (v:= .tuple #[.agg #[.int .i64 N,.slice a H.length I],.bool true]) (by simp [results,Tryz.results116,go_sem, *]) rfl ?_;refine ⟨.inr ⟨N,H,.slice a H.length I,u.out,rfl,?_,B,i,h3,H4.out⟩,?_⟩
   ·rw [n.out];exact (mU (mU HO.out (by omega)) (by omega)).mono (by omega)
   ·rw [n.out];exact (C.out.setCell (Nat.le_refl _) _).setCell (Nat.le_refl _) _
 ·have b:Hid (db l=none):=Lib.hid (by
   cases l with
   | nil=>rfl
   | cons c r=>
    have j:¬c=71:=fun e=>f (by rw [e];rfl);unfold db;simp only
    rw [if_neg j])
  have m1:((bs (gy ((some l).bind (bg 1)))).toList == [71])=false:=by
   rw [pM]
   cases l with
   | nil=>rfl
   | cons c r=>
    have j:¬c=71:=fun e=>f (by rw [e];rfl);show ([c] == [71])=false;simpa using j
  obtain ⟨t,X⟩:∃t,gy ((some l).bind (bg 1))=t:=⟨_,rfl⟩;rw [X] at m1 j;have d:=Lib.hid j;clear f X j;go_enter Tryz.func116,Tryz.ntmps116;go_wp2_with fail
  rw [x.out];refine d.out.mono ?_;rintro e p ⟨rfl,B,i⟩;have o:ni p s 0 (.slice none 0 0):=(i.2 s (by omega)).trans m.out;have r0:p.cell? ⟨s,0,none⟩=some (.int .i64 0):=(o.cell 0).1;have g0:=(o.cell 0).2;have r1:p.cell? ⟨s,1,none⟩=some (.slice none 0 0):=(o.cell 1).1;have g1:=(o.cell 1).2;have q:=Lib.hid (k.out.trans (i.below (by omega)));clear B i o d m k;go_wp2_with fail
  refine bodyPost_ret (v:= .tuple #[.agg #[.int .i64 0,.slice none 0 0],.bool false]) (by simp [results,Tryz.results116,go_sem, *]) rfl ?_;refine ⟨.inl ⟨b.out,rfl⟩,?_⟩;rw [n.out];exact (q.out.setCell (Nat.le_refl _) _).setCell (Nat.le_refl _) _
def rR (w:World):Prop:=Lib.TabIs Tryz.prog w "internal/strconv.uint64pow10" .u64 Lib.pow10Tab
theorem wi:Tryz.prog.globalNamed "internal/strconv.uint64pow10"=some 6:=by kernel_rfl
theorem rR.block {w a:World} (h:rR w) (e:a.heap[6]? =w.heap[6]?):rR a:=by
 unfold rR Lib.TabIs World.var? at h ⊢;rw [wi] at h ⊢;simp only [Option.bind_some] at h ⊢;rw [e];exact h
theorem rR.lt {w:World} (h:rR w):6 < w.heap.size:=by
 unfold rR Lib.TabIs World.var? at h;rw [wi] at h;simp only [Option.bind_some] at h
 rcases hh:w.heap[6]? with _ | o
 ·rw [hh] at h;simp at h
 ·exact ah hh
theorem rR.below {w a:World} (h:rR w) (b:Below w.heap.size w a):rR a:=h.block (b.block _ h.lt)
theorem rR.chg {A:Nat→Prop} {w a:World} (h:rR w) (b:aF A w a) (c:¬A 6):rR a:=h.block (b.block _ h.lt c)
theorem rR.same {b:Nat} {w a:World} (h:rR w) (d:aH b w a) (c:b≠6):rR a:=h.block (d.2 _ (Ne.symm c))
theorem Dd (w:World) (k:Nat) (a:Array Obj):Below w.heap.size w (Sort.grow (w.drewN k) a):=by
 have h:=bw k w w.heap.size;refine ⟨h.os,h.tape,h.output,?_,fun j b=>?_⟩
 ·show w.heap.size≤((w.drewN k).heap++a).size;rw [Array.size_append];have:=h.size;omega
 ·show ((w.drewN k).heap++a)[j]? =_;rw [Array.getElem?_append_left (Nat.lt_of_lt_of_le b h.size)];exact h.block j b
theorem zr (n:Int) (b: -9223372036854775808≤n) (c:n≤9223372036854775807) (w:World) (d:rR w):
  Calls Tryz.prog 196 #[.int .i64 n] w fun e a=>e= .returned (.string (bs (Lib.itoa n)))∧Below w.heap.size w a:=by
 refine (Tryz.strconv_Itoa n b c w d).mono ?_;rintro e a ⟨rfl,k,f,rfl⟩;exact ⟨rfl,Dd w k f⟩
theorem kq (n:Nat):∀k,n < 10 ^ (k+1)→(Lib.decDigits n).length≤k+1:=by
 induction n using Nat.strongRecOn with
 | ind n ih=>
  intro k a;rw [Lib.decDigits]
  split
  ·simp
  ·rename_i h
   cases k with
   | zero=>omega
   | succ k=>
    have:=ih (n / 10) (by omega) k (by rw [Nat.pow_succ] at a;omega);simp;omega
theorem uu (sb l i:Nat) (C:Array Value) (b:List UInt8) (a:Int) (w:World) (h:bP w sb l C []) (M:C[0]? =some (.pointer (some ⟨i,0,none⟩))) (X:w.cell? ⟨i,0,none⟩=some (.string (bs b))) (J:w.cell? ⟨i,5,none⟩=some (.int .i64 a)) (p:i≠sb) (H:i≠l) (hl:b.length≤255) (P:rR w) (I:sb≠6) (G:l≠6) (a0:0≤a) (a1:a≤1000):
  Calls Tryz.prog 145 #[.pointer (some ⟨sb,0,none⟩)] w fun e Q=>e= .returned (.tuple #[])∧bP Q sb l ((C.setIfInBounds 5 (.bool true)).setIfInBounds 8 (.pointer none)) [[50,53,48,45]++b++[13,10],[50,53,48,45,83,73,90,69,32]++Lib.itoa a++[13,10],[50,53,48,32,65,85,84,72,32,80,76,65,73,78,13,10]]∧aF (fun k=>k=sb∨k=l) w Q:=by
 have hz:=h.size;obtain ⟨v5,K⟩:∃q,C[5]? =some q:=⟨_,Array.getElem?_eq_getElem (by omega)⟩;have c5:=(h.cell 5).trans K;have f5:=h.frozen 5;have c0:=(h.cell 0).trans M;have A:aH sb w (w.setCell ⟨sb,5,none⟩ (.bool true)):=(aH.refl _ _).setCell _;have Y:(w.setCell ⟨sb,5,none⟩ (.bool true)).cell? ⟨i,0,none⟩=some (.string (bs b)):=(A.cell p).trans X;have L:=h.set 5 (by decide) (.bool true);have o:=P.same A I;have V:=Lib.hid (L.tell (by simp) ([50,53,48,45]++b) (by rw [List.length_append];simp;omega));have g:(⟨#[50,53,48,45]⟩:ByteArray)++bs b=bs ([50,53,48,45]++b):=ca [50,53,48,45] b;have c:(⟨#[50,53,48,45,83,73,90,69,32]⟩:ByteArray)++bs (Lib.itoa a)=bs ([50,53,48,45,83,73,90,69,32]++Lib.itoa a):=ca [50,53,48,45,83,73,90,69,32] _
 have Z:(Lib.itoa a).length≤4:=by
  unfold Lib.itoa;rw [if_neg (by omega)];exact kq _ 3 (by omega)
 have T:=Lib.hid g;have r:=Lib.hid c;have O:=aI b;have a2:=aI (Lib.itoa a);have B:(C.setIfInBounds 5 (.bool true))[0]? =some (.pointer (some ⟨i,0,none⟩)):=by rw [Array.getElem?_setIfInBounds_ne (by decide)];exact M
 have U:Hid (rR (w.setCell ⟨sb,5,none⟩ (.bool true))):=Lib.hid o;have m:=Lib.hid A;clear h L g c P o;go_enter_defers Tryz.func145,Tryz.ntmps145
 go_wp2_with fail
 rw [T.out];refine V.out.mono ?_;rintro e R ⟨rfl,D,d⟩;have d0:=(D.cell 0).trans B;have d5:R.cell? ⟨i,5,none⟩=some (.int .i64 a):=(d.cell H).trans ((m.out.cell p).trans J);have u:Hid (rR R):=Lib.hid (U.out.same d G);have t:=Lib.hid D;have v:=Lib.hid d;clear D d;go_wp2_with fail
 refine (zr a (by omega) (by omega) _ u.out).mono ?_;rintro e w2 ⟨rfl,j⟩;have y:=Lib.hid ((t.out.below j).tell (by simp) ([50,53,48,45,83,73,90,69,32]++Lib.itoa a) (by rw [List.length_append];simp;omega));have s:=Lib.hid j;clear j;go_wp2_with fail
 rw [r.out];refine y.out.mono ?_;rintro e w3 ⟨rfl,N,n⟩;have z:=Lib.hid (N.tell (by simp) [50,53,48,32,65,85,84,72,32,80,76,65,73,78] (by decide));have x:=Lib.hid n;clear N n;go_wp2_with fail
 refine z.out.mono ?_;rintro e S ⟨rfl,E,F⟩;obtain ⟨q,hv⟩:∃q,(C.setIfInBounds 5 (.bool true))[8]? =some q:=⟨_,Array.getElem?_eq_getElem (by simp;omega)⟩;have W:aH sb S (S.setCell ⟨sb,8,none⟩ (.pointer none)):=(aH.refl _ _).setCell _;go_wp2_with fail
 refine leaves_cons (f:=194) (args:=#[.pointer (some ⟨sb,0,none⟩)]) (by simp) (by simp [go_sem]) ?_;refine (mY sb q .returning _ ((E.cell 8).trans hv) (E.frozen 8)).mono ?_;rintro e u' a3 ⟨rfl,rfl,rfl⟩;refine ⟨_,results_none rfl _ _ _,rfl,by simpa using E.set 8 (by decide) (.pointer none),?_⟩
 exact (((((aF.same m.out).mono (fun _ _ e=> .inl e):aF (fun k=>k=sb∨k=l) w _).trans (aF.same v.out) (fun _ _ e=> .inr e)).trans (aF.below s.out:aF (fun _=>False) _ _) (fun k _ e=>e.elim)).trans (aF.same x.out) (fun _ _ e=> .inr e) |>.trans (aF.same F) (fun _ _ e=> .inr e)).trans (aF.same W) (fun _ _ e=> .inl e)
def qQ (n:Nat):UInt8:=UInt8.ofNat n
def DQ (k:Nat):Nat:=if k < 26 then k+65 else if k < 52 then k+71 else if k < 62 then k - 4 else if k=62 then 43 else 47
def qY (k:Nat):UInt8:=qQ (DQ k)
def gU (c:UInt8):Option Nat:=
 if 65≤c.toNat∧c.toNat≤90 then some (c.toNat - 65) else if 97≤c.toNat∧c.toNat≤122 then some (c.toNat - 97+26) else if 48≤c.toNat∧c.toNat≤57 then some (c.toNat - 48+52) else if c.toNat=43 then some 62 else if c.toNat=47 then some 63 else none
theorem dX (n:Nat):(qQ n).toNat=n % 256:=by rw [qQ,UInt8.toNat_ofNat']
theorem AD (n:Nat) (c:UInt8) (h:n % 256=c.toNat):qQ n=c:=UInt8.toNat_inj.1 (by rw [dX,h])
theorem G9 (k:Nat):DQ k < 256:=by
 unfold DQ
 by_cases a:k < 26
 ·rw [if_pos a];omega
 rw [if_neg a]
 by_cases b:k < 52
 ·rw [if_pos b];omega
 rw [if_neg b]
 by_cases c:k < 62
 ·rw [if_pos c];omega
 rw [if_neg c]
 by_cases d:k=62
 ·rw [if_pos d];omega
 ·rw [if_neg d];omega
theorem Bw (k:Nat) (_:k < 64):(qY k).toNat=DQ k:=by
 have:=G9 k;rw [qY,dX];omega
theorem dn {c:UInt8} {k:Nat} (h:gU c=some k):k < 64∧qY k=c:=by
 have a:k < 64∧DQ k=c.toNat:=by
  unfold gU at h;unfold DQ
  split at h
  ·have:k=c.toNat - 65:=(Option.some.inj h).symm;rw [if_pos (by omega)];omega
  split at h
  ·have:k=c.toNat - 97+26:=(Option.some.inj h).symm;rw [if_neg (by omega),if_pos (by omega)];omega
  split at h
  ·have:k=c.toNat - 48+52:=(Option.some.inj h).symm;rw [if_neg (by omega),if_neg (by omega),if_pos (by omega)];omega
  split at h
  ·have:k=62:=(Option.some.inj h).symm;rw [if_neg (by omega),if_neg (by omega),if_neg (by omega),if_pos (by omega)];omega
  split at h
  ·have:k=63:=(Option.some.inj h).symm;rw [if_neg (by omega),if_neg (by omega),if_neg (by omega),if_neg (by omega)];omega
  ·cases h
 refine ⟨a.1,UInt8.toNat_inj.1 ?_⟩;rw [Bw k a.1,a.2]
def g1 (a b:UInt8):Option (List UInt8):=match gU a,gU b with
 | some p,some q=>if q % 16=0 then some [qQ (p * 4+q / 16)] else none
 | _,_=>none
def g2 (a b c:UInt8):Option (List UInt8):=match gU a,gU b,gU c with
 | some p,some q,some r=>if r % 4=0 then some [qQ (p * 4+q / 16),qQ (q % 16 * 16+r / 4)] else none
 | _,_,_=>none
def g3 (a b c d:UInt8):Option (List UInt8):=match gU a,gU b,gU c,gU d with
 | some p,some q,some r,some t=>some [qQ (p * 4+q / 16),qQ (q % 16 * 16+r / 4),qQ (r % 4 * 64+t)]
 | _,_,_,_=>none
def EH (a b c d:UInt8):Option (List UInt8):=if d=61 then (if c=61 then g1 a b else g2 a b c) else g3 a b c d
def jZ:List UInt8→Option (List UInt8)
 | []=>some []
 | a::b::c::d::r=>match EH a b c d with
  | none=>none
  | some g=>if g.length < 3∧r≠[] then none else match jZ r with
   | none=>none
   | some y=>some (g++y)
 | _=>none
def Av:List UInt8→List UInt8
 | []=>[]
 | [x]=>[qY (x.toNat / 4),qY (x.toNat % 4 * 16),61,61]
 | [x,y]=>[qY (x.toNat / 4),qY (x.toNat % 4 * 16+y.toNat / 16),qY (y.toNat % 16 * 4),61]
 | x::y::z::r=>qY (x.toNat / 4)::qY (x.toNat % 4 * 16+y.toNat / 16)::qY (y.toNat % 16 * 4+z.toNat / 64)::qY (z.toNat % 64)::Av r
theorem IV {a b:UInt8} {g:List UInt8} (h:g1 a b=some g):Av g=[a,b,61,61]∧g.length=1:=by
 unfold g1 at h
 split at h
 ·rename_i p q e i
  split at h
  ·obtain ⟨f,c⟩:=dn e;obtain ⟨j,d⟩:=dn i;have:=(Option.some.inj h).symm;subst this;refine ⟨?_,rfl⟩;simp only [Av];rw [dX,←c,←d];rw [show (p * 4+q / 16) % 256 / 4=p by omega,show (p * 4+q / 16) % 256 % 4 * 16=q by omega]
  ·cases h
 ·cases h
theorem IW {a b c:UInt8} {g:List UInt8} (h:g2 a b c=some g):Av g=[a,b,c,61]∧g.length=2:=by
 unfold g2 at h
 split at h
 ·rename_i p q r i k m
  split at h
  ·obtain ⟨j,d⟩:=dn i;obtain ⟨l,e⟩:=dn k;obtain ⟨n,f⟩:=dn m;have:=(Option.some.inj h).symm;subst this;refine ⟨?_,rfl⟩;simp only [Av];rw [dX,dX,←d,←e,←f];rw [show (p * 4+q / 16) % 256 / 4=p by omega,show (p * 4+q / 16) % 256 % 4 * 16+(q % 16 * 16+r / 4) % 256 / 16=q by omega,show (q % 16 * 16+r / 4) % 256 % 16 * 4=r by omega]
  ·cases h
 ·cases h
theorem IX {a b c d:UInt8} {g:List UInt8} (h:g3 a b c d=some g):(∀y,Av (g++y)=a::b::c::d::Av y)∧g.length=3:=by
 unfold g3 at h
 split at h
 ·rename_i p q r t k m o u
  obtain ⟨l,e⟩:=dn k;obtain ⟨n,f⟩:=dn m;obtain ⟨s,i⟩:=dn o;obtain ⟨v,j⟩:=dn u;have:=(Option.some.inj h).symm;subst this;refine ⟨fun y=>?_,rfl⟩;simp only [List.cons_append,List.nil_append,Av];rw [dX,dX,dX,←e,←f,←i,←j];rw [show (p * 4+q / 16) % 256 / 4=p by omega,show (p * 4+q / 16) % 256 % 4 * 16+(q % 16 * 16+r / 4) % 256 / 16=q by omega,show (q % 16 * 16+r / 4) % 256 % 16 * 4+(r % 4 * 64+t) % 256 / 64=r by omega,show (r % 4 * 64+t) % 256 % 64=t by omega]
 ·cases h
end Go.Proofs.YtofpegbpgkkgkaaGreatDoor
