import Derived.Test.YtofpegbpgkkgkaaGreatDoorS04
import Derived.Test.YtofpegbpgkkgkaaGreatDoorS02
import Derived.Lib.FrozenHead
import Derived.Lib.LaidTab
import Derived.WalkSmall
import Derived.Lib.SlBytesConst
import Derived.Sort.OwnSortedInts
namespace Go.Proofs.YtofpegbpgkkgkaaGreatDoor
set_option maxHeartbeats 8000000
set_option maxRecDepth 1000000
open Go.RowKit
theorem lJ (k:IntKind) (j:Nat) (l:j≤k.bits) (m:∀n:Int,0≤n→n < 2 ^ j→k.wrap n=n) (a b:Nat) (f:a < 2 ^ j) (g:b < 2 ^ j):bits .xor k a b=((a ^^^ b:Nat):Int):=by
 have i:2 ^ j≤2 ^ k.bits:=Nat.pow_le_pow_right (by decide) l;have d:a % 2 ^ k.bits=a:=Nat.mod_eq_of_lt (Nat.lt_of_lt_of_le f i);have e:b % 2 ^ k.bits=b:=Nat.mod_eq_of_lt (Nat.lt_of_lt_of_le g i);have c:∀n:Nat,n < 2 ^ j→((n:Nat):Int) < 2 ^ j:=fun n h=>by exact_mod_cast h
 simp only [bits,BitVec.ofInt_natCast,BitVec.toNat_xor,BitVec.toNat_ofNat,d,e];exact m _ (Int.natCast_nonneg _) (c _ (Nat.xor_lt_two_pow f g))
theorem Gb (n:Int) (a:0≤n) (b:n < 2 ^ 32):IntKind.i64.wrap n=n:=by rw [IntKind.wrap_i64];omega
theorem Ga (n:Int):IntKind.u32.wrap n=n % 4294967296:=by simp [IntKind.wrap,IntKind.bits,IntKind.signed]
theorem od (n:Int) (a:0≤n) (b:n < 2 ^ 32):IntKind.u32.wrap n=n:=by rw [Ga];omega
def gG (w:World) (b:Nat) (o:Option (List UInt8)):Prop:=
 match o with
 | some l=>w.heap[b]? =some (.cells #[.string (bs l),.bool false] 187 (0,0))∧l.length≤maxLen
 | none=>∃l:List UInt8,w.heap[b]? =some (.cells #[.string (bs l),.bool true] 187 (0,0))
def gK (o:Option (List UInt8×List UInt8)):List UInt8:=(o.map (·.1)).getD []
theorem iY (b k:Nat) (o:Option (List UInt8)) (w:World) (h:gG w b o) (q:k≤maxLen):
  Calls Tryz.prog 112 #[.pointer (some ⟨b,0,none⟩),.int .i64 k] w fun e i=>e= .returned (.string (bs (gK (o.bind (bm k)))))∧gG i b ((o.bind (bm k)).map (·.2))∧aL b w i:=by
 unfold maxLen at q
 cases o with
 | none=>
  obtain ⟨l,a⟩:=h;have j:w.cell? ⟨b,0,none⟩=some (.string (bs l)):=by rw [Lib.cell_of_heap a];rfl
  have m:w.cell? ⟨b,1,none⟩=some (.bool true):=by rw [Lib.cell_of_heap a];rfl
  have n:w.frozen? ⟨b,1,none⟩=false:=Lib.frozen_of_heap a 1;have d:=Lib.hid a;clear a;go_enter Tryz.func112,Tryz.ntmps112;go_wp2_with fail
  go_ret;exact ⟨rfl,⟨l,heap_setCell_same w b 1 _ _ (.bool true) d.out⟩,(aL.refl b w).setCell _⟩
 | some l=>
  obtain ⟨a,g⟩:=h;unfold maxLen at g;have j:w.cell? ⟨b,0,none⟩=some (.string (bs l)):=by rw [Lib.cell_of_heap a];rfl
  have m:w.cell? ⟨b,1,none⟩=some (.bool false):=by rw [Lib.cell_of_heap a];rfl
  have r:w.frozen? ⟨b,0,none⟩=false:=Lib.frozen_of_heap a 0;have n:w.frozen? ⟨b,1,none⟩=false:=Lib.frozen_of_heap a 1;have s:=aG l;have d:=Lib.hid a;clear a
  by_cases c:k≤l.length
  ·have p:decide ((l.length:Int) < (k:Int))=false:=by simp;omega
   have f:decide (l.length < k)=false:=by simp;omega
   go_enter Tryz.func112,Tryz.ntmps112;go_wp2_with fail
   simp only [fW,List.drop_zero,List.take_length];have e:(some l).bind (bm k)=some (l.take k,l.drop k):=by show bm k l=_;unfold bm;rw [if_pos c]
   go_ret;rw [e];exact ⟨rfl,⟨heap_setCell_same w b 0 _ _ (.string (bs (l.drop k))) d.out,by rw [List.length_drop];unfold maxLen;omega⟩,(aL.refl b w).setCell _⟩
  ·have p:decide ((l.length:Int) < (k:Int))=true:=by simp;omega
   have f:decide (l.length < k)=true:=by simp;omega
   go_enter Tryz.func112,Tryz.ntmps112;go_wp2_with fail
   have e:(some l).bind (bm k)=none:=by show bm k l=_;unfold bm;rw [if_neg c]
   go_ret;rw [e];exact ⟨rfl,⟨l,heap_setCell_same w b 1 _ _ (.bool true) d.out⟩,(aL.refl b w).setCell _⟩
theorem Jt {N x:Nat} (a:N < 16777216) (b:x < 256):bits .or .i64 (wrap64 ((N:Int) * 256)) (x:Int)=((256 * N+x:Nat):Int):=by
 rw [IV _ (by omega),bits_join .i64 32 (by decide) Gb 8 _ _ (by omega) (by omega) (by omega) (by omega) (by omega) (by omega)];omega
theorem dZ (b k:Nat) (o:Option (List UInt8)) (w:World) (h:gG w b o) (F:k≤4):
  Calls Tryz.prog 111 #[.pointer (some ⟨b,0,none⟩),.int .i64 k] w fun e v=>e= .returned (.int .i64 (be (gK (o.bind (bm k)))))∧gG v b ((o.bind (bm k)).map (·.2))∧aL b w v:=by
 have a:=iY b k o w h (by unfold maxLen;omega)
 have d:(gK (o.bind (bm k))).length≤4:=by
  cases e:o.bind (bm k) with
  | none=>simp [gK]
  | some x=>
   obtain ⟨l,m,c⟩:=cC e;obtain ⟨y,r⟩:=x;have:=(jH c).2.2.2;show y.length≤4;omega
 obtain ⟨t,s⟩:∃t,gK (o.bind (bm k))=t:=⟨_,rfl⟩;obtain ⟨r,u⟩:∃r,(o.bind (bm k)).map (·.2)=r:=⟨_,rfl⟩;rw [s] at d;rw [s,u] at a ⊢;clear s u h;have G:=aG t;go_enter Tryz.func111,Tryz.ntmps111;go_wp2_with fail
 refine a.mono ?_;rintro e H ⟨rfl,m,c⟩;have z:=Lib.hid m;have A:=Lib.hid c;clear a m c;go_wp2_with fail
 go_loop [6,13] (fun n i=>∃j N:Nat,j≤t.length∧i= .int .i64 j∧n= .int .i64 N∧Hid (N=be (t.take j))) (fun _ i=>t.length - (intOf i).toNat)
 case atStart=>exact ⟨0,0,Nat.zero_le _,rfl,rfl,rfl⟩
 case round=>
  obtain ⟨j,N,E,rfl,rfl,g⟩:=hrel
  by_cases q:j < t.length
  ·have f:j < (bs t).size:=by omega
   have B:Hid (N < 16777216):=Lib.hid (by
    rw [g.out];have m:=Ad (t.take j);have c:256 ^ (t.take j).length≤256 ^ 3:=Nat.pow_le_pow_right (by decide) (by rw [List.length_take];omega);have D:256 ^ 3=16777216:=by decide
    omega)
   go_wp2_with fail
   refine ⟨⟨j+1,be (t.take (j+1)),by omega,by go_num,?_,rfl⟩,by simp [intOf];omega⟩
   refine congrArg (Value.int .i64) ?_;rw [I4 t j q,←Gt t j f,←g.out];have C:=((bs t)[j]).toNat_lt;rw [IV (((bs t)[j]).toNat:Int) (by omega)];exact Jt B.out C
  ·have p:j=t.length:=by omega
   subst p;rw [List.take_length] at g;go_wp2_with fail
   go_ret;exact ⟨congrArg (fun x:Nat=>Ending.returned (.int .i64 (x:Int))) g.out,z.out,A.out⟩
theorem J7 (k:Nat) (o:Option (List UInt8)):((o.bind (bm k)).map (·.2)).bind (bm (be (gK (o.bind (bm k)))))=o.bind (wm k):=by
 cases o with
 | none=>rfl
 | some l=>
  show ((bm k l).map (·.2)).bind (bm (be (gK (bm k l))))=wm k l;unfold wm fZ bm
  by_cases h:k≤l.length
  ·rw [if_pos h,if_pos h];rfl
  ·rw [if_neg h,if_neg h];rfl
theorem uM (k:Nat) (o:Option (List UInt8)):(o.bind (bm k)).map (·.2)=(o.bind (fZ k)).map (·.2)∧be (gK (o.bind (bm k)))=((o.bind (fZ k)).map (·.1)).getD 0:=by
 cases o with
 | none=>exact ⟨rfl,rfl⟩
 | some l=>
  show (bm k l).map (·.2)=(fZ k l).map (·.2)∧be (gK (bm k l))=((fZ k l).map (·.1)).getD 0;unfold fZ bm
  by_cases h:k≤l.length
  ·rw [if_pos h,if_pos h];exact ⟨rfl,rfl⟩
  ·rw [if_neg h,if_neg h];exact ⟨rfl,rfl⟩
theorem oT (b k:Nat) (o:Option (List UInt8)) (w:World) (h:gG w b o) (F:k≤4):
  Calls Tryz.prog 163 #[.pointer (some ⟨b,0,none⟩),.int .i64 k] w fun e i=>e= .returned (.string (bs (gK (o.bind (wm k)))))∧gG i b ((o.bind (wm k)).map (·.2))∧aL b w i:=by
 have c:=dZ b k o w h F
 have v:be (gK (o.bind (bm k)))≤maxLen:=by
  have f:(gK (o.bind (bm k))).length≤4:=by
   cases e:o.bind (bm k) with
   | none=>simp [gK]
   | some x=>
    obtain ⟨l,q,g⟩:=cC e;obtain ⟨y,r⟩:=x;have:=(jH g).2.2.2;show y.length≤4;omega
  have:=sQ f;unfold maxLen;omega
 have a:=fun i E=>iY b (be (gK (o.bind (bm k)))) ((o.bind (bm k)).map (·.2)) i E v;rw [J7] at a;obtain ⟨N,m⟩:∃N,be (gK (o.bind (bm k)))=N:=⟨_,rfl⟩;obtain ⟨r,n⟩:∃r,(o.bind (bm k)).map (·.2)=r:=⟨_,rfl⟩;obtain ⟨t,p⟩:∃t,gK (o.bind (wm k))=t:=⟨_,rfl⟩;obtain ⟨z,d⟩:∃z,(o.bind (wm k)).map (·.2)=z:=⟨_,rfl⟩;rw [m,n] at c;rw [m,n,p,d] at a;rw [p,d];have j:=Lib.hid a;clear a v m n p d h;go_enter Tryz.func163,Tryz.ntmps163;go_wp2_with fail
 refine c.mono ?_;rintro e G ⟨rfl,q,g⟩;have A:=Lib.hid q;have B:=Lib.hid g;clear c q g;go_wp2_with fail
 refine (j.out _ A.out).mono ?_;rintro e H ⟨rfl,s,u⟩;have C:=Lib.hid s;have D:=Lib.hid (B.out.trans u);clear s u;go_wp2_with fail
 go_ret;exact ⟨rfl,C.out,D.out⟩
theorem ue (b:Nat) (o:Option (List UInt8)) (w:World) (h:gG w b o):
  Calls Tryz.prog 164 #[.pointer (some ⟨b,0,none⟩)] w fun e f=>e= .returned (.bool (decide (o=some [])))∧w=f:=by
 cases o with
 | none=>
  obtain ⟨l,a⟩:=h;have c:w.cell? ⟨b,0,none⟩=some (.string (bs l)):=by rw [Lib.cell_of_heap a];rfl
  have d:w.cell? ⟨b,1,none⟩=some (.bool true):=by rw [Lib.cell_of_heap a];rfl
  clear a;go_enter Tryz.func164,Tryz.ntmps164;go_wp2_with fail
  go_ret;exact ⟨cG (by simp),rfl⟩
 | some l=>
  obtain ⟨a,_⟩:=h;have c:w.cell? ⟨b,0,none⟩=some (.string (bs l)):=by rw [Lib.cell_of_heap a];rfl
  have d:w.cell? ⟨b,1,none⟩=some (.bool false):=by rw [Lib.cell_of_heap a];rfl
  clear a;go_enter Tryz.func164,Tryz.ntmps164;go_wp2_with fail
  go_ret;exact ⟨cG (by rw [Lib.toList_data,aI];cases l <;> simp),rfl⟩
def gj (k:Nat) (o:Option (List UInt8)):Nat×Option (List UInt8):=(be (gK (o.bind (bm k))),(o.bind (bm k)).map (·.2))
def jX (k:Nat) (o:Option (List UInt8)):List UInt8×Option (List UInt8):=(gK (o.bind (wm k)),(o.bind (wm k)).map (·.2))
def jh:Nat→Option (List UInt8)→List (List UInt8)×Option (List UInt8)
 | 0,o=>([],o)
 | n+1,o=>((jh n o).1++[(jX 1 (jh n o).2).1],(jX 1 (jh n o).2).2)
def iM:Nat→Option (List UInt8)→List Nat×Option (List UInt8)
 | 0,o=>([],o)
 | n+1,o=>((iM n o).1++[(gj 1 (iM n o).2).1],(gj 1 (iM n o).2).2)
def mG {α:Type} (x:α×Option (List UInt8)):Option (α×List UInt8):=x.2.map fun r=>(x.1,r)
theorem kh (k:Nat):gj k none=(0,none):=rfl
theorem rl (k:Nat):jX k none=([],none):=rfl
theorem pj:∀n,(jh n none).2=none
 | 0=>rfl
 | n+1=>by rw [jh,pj n];rfl
theorem l7:∀n,(iM n none).2=none
 | 0=>rfl
 | n+1=>by rw [iM,l7 n];rfl
theorem jI (k:Nat) (l:List UInt8):fZ k l=mG (gj k (some l)):=by
 unfold gj mG fZ;show _=((bm k l).map (·.2)).map _;unfold bm
 by_cases h:k≤l.length
 ·rw [if_pos h,if_pos h];show _=some (be (gK ((some l).bind fun l=>if k≤l.length then some (l.take k,l.drop k) else none)),l.drop k);rw [sb,if_pos h];rfl
 ·rw [if_neg h,if_neg h];rfl
theorem wc (k:Nat) (l:List UInt8):wm k l=mG (jX k (some l)):=by
 unfold jX mG;show _=((wm k l).map (·.2)).map fun r=>(gK (wm k l),r)
 cases wm k l with
 | none=>rfl
 | some x=>rfl
theorem wh:∀(n:Nat) (o:Option (List UInt8)),jh (n+1) o=((jX 1 o).1::(jh n (jX 1 o).2).1,(jh n (jX 1 o).2).2)
 | 0,o=>rfl
 | n+1,o=>by
  rw [jh,wh n o];rw [jh];rfl
theorem uO:∀(n:Nat) (o:Option (List UInt8)),iM (n+1) o=((gj 1 o).1::(iM n (gj 1 o).2).1,(iM n (gj 1 o).2).2)
 | 0,o=>rfl
 | n+1,o=>by
  rw [iM,uO n o];rw [iM];rfl
theorem yo:∀(n:Nat) (l:List UInt8),xp n l=mG (jh n (some l))
 | 0,l=>rfl
 | n+1,l=>by
  rw [xp,wc,wh]
  cases h:(jX 1 (some l)).2 with
  | none=>
   have e:mG (jX 1 (some l))=none:=by unfold mG;rw [h];rfl
   rw [e];unfold mG;rw [pj];rfl
  | some r=>
   have e:mG (jX 1 (some l))=some ((jX 1 (some l)).1,r):=by unfold mG;rw [h];rfl
   rw [e,sb,yo n r];unfold mG
   cases (jh n (some r)).2 <;> rfl
theorem uP:∀(n:Nat) (l:List UInt8),oB n l=mG (iM n (some l))
 | 0,l=>rfl
 | n+1,l=>by
  rw [oB,jI,uO]
  cases h:(gj 1 (some l)).2 with
  | none=>
   have e:mG (gj 1 (some l))=none:=by unfold mG;rw [h];rfl
   rw [e];unfold mG;rw [l7];rfl
  | some r=>
   have e:mG (gj 1 (some l))=some ((gj 1 (some l)).1,r):=by unfold mG;rw [h];rfl
   rw [e,sb,uP n r];unfold mG
   cases (iM n (some r)).2 <;> rfl
theorem Db (r:List UInt8) {m k n l o j:Option (List UInt8)} {I T N:Nat} {f B:List UInt8} {p:List (List UInt8)} (s:gj 4 (some r)=(I,m)) (g:gj 4 m=(T,k)) (i:jX 1 k=(f,n)) (a:gj 1 n=(N,l)) (q:jh N l=(p,o)) (b:jX 2 o=(B,j)):
  nk r=if j=some [] then some ⟨I,T,f,p,B⟩ else none:=by
 have c:l=none→j=none:=fun e=>by
  subst e;have:=pj N;rw [q] at this;simp only at this;subst this;rw [rl] at b;injection b with _ b;exact b.symm
 have d:k=none→j=none:=fun e=>by
  subst e;rw [rl] at i;injection i with _ i;subst i;rw [kh] at a;injection a with _ a;exact c a.symm
 unfold nk;rw [jI,s]
 cases m with
 | none=>
  rw [kh] at g;injection g with _ g;rw [d g.symm];rfl
 | some r1=>
  show ((fZ 4 r1).bind _)=_;rw [jI,g]
  cases k with
  | none=>rw [d rfl];rfl
  | some r2=>
   show ((wm 1 r2).bind _)=_;rw [wc,i]
   cases n with
   | none=>
    rw [kh] at a;injection a with _ a;rw [c a.symm];rfl
   | some r3=>
    show ((fZ 1 r3).bind _)=_;rw [jI,a]
    cases l with
    | none=>rw [c rfl];rfl
    | some r4=>
     show ((xp N r4).bind _)=_;rw [yo,q]
     cases o with
     | none=>
      rw [rl] at b;injection b with _ b;rw [←b];rfl
     | some r5=>
      show ((wm 2 r5).bind _)=_;rw [wc,b]
      cases j with
      | none=>rfl
      | some r6=>
       show (if r6=[] then _ else _)=_
       by_cases h:r6=[]
       ·rw [if_pos h,if_pos (by rw [h])]
       ·rw [if_neg h,if_neg (by intro e;injection e with e;exact h e)]
theorem C4 (r:List UInt8) {f c d:Option (List UInt8)} {I N:Nat} {g:List Nat} (j:gj 4 (some r)=(I,f)) (b:gj 1 f=(N,c)) (i:iM N c=(g,d)):
  rI r=if d=some [] then some (I,g) else none:=by
 have a:c=none→d=none:=fun e=>by
  subst e;have:=l7 N;rw [i] at this;exact this
 unfold rI;rw [jI,j]
 cases f with
 | none=>
  rw [kh] at b;injection b with _ b;rw [a b.symm];rfl
 | some r1=>
  show ((fZ 1 r1).bind _)=_;rw [jI,b]
  cases c with
  | none=>rw [a rfl];rfl
  | some r2=>
   show ((oB N r2).bind _)=_;rw [uP,i]
   cases d with
   | none=>rfl
   | some r3=>
    show (if r3=[] then _ else _)=_
    by_cases h:r3=[]
    ·rw [if_pos h,if_pos (by rw [h])]
    ·rw [if_neg h,if_neg (by intro e;injection e with e;exact h e)]
theorem lZ (k:Nat) (o:Option (List UInt8)):(gj k o).1 < 256 ^ k:=by
 unfold gj
 cases e:o.bind (bm k) with
 | none=>exact Nat.pow_pos (by decide)
 | some x=>
  obtain ⟨l,_,a⟩:=cC e;obtain ⟨y,r⟩:=x;have:=(jH a).2.2.2;have h:=Ad y;rw [this] at h;exact h
theorem tj (k:Nat) (o:Option (List UInt8)):(jX k o).1.length < 256 ^ k:=by
 unfold jX
 cases e:o.bind (wm k) with
 | none=>exact Nat.pow_pos (by decide)
 | some x=>
  obtain ⟨l,_,a⟩:=cC e;obtain ⟨y,r⟩:=x;exact (ti a).2.2.2
theorem yp:∀(n:Nat) (o:Option (List UInt8)),(jh n o).1.length=n
 | 0,_=>rfl
 | n+1,o=>by rw [jh,List.length_append,yp n];rfl
theorem BZ:∀(n:Nat) (o:Option (List UInt8)),∀t∈(jh n o).1,t.length < 256
 | 0,_,t,h=>by cases h
 | n+1,o,t,h=>by
  rw [jh] at h
  rcases List.mem_append.1 h with h | h
  ·exact BZ n o t h
  ·simp only [List.mem_singleton] at h;subst h;exact tj 1 _
theorem xW:∀(n:Nat) (o:Option (List UInt8)),(iM n o).1.length=n
 | 0,_=>rfl
 | n+1,o=>by rw [iM,List.length_append,xW n];rfl
theorem Bp:∀(n:Nat) (o:Option (List UInt8)),∀x∈(iM n o).1,x < 256
 | 0,_,t,h=>by cases h
 | n+1,o,t,h=>by
  rw [iM] at h
  rcases List.mem_append.1 h with h | h
  ·exact Bp n o t h
  ·simp only [List.mem_singleton] at h;subst h;exact lZ 1 _
theorem Er {a b:Int} (h:a=b):Ending.returned (.int .u32 a)= .returned (.int .u32 b):=by rw [h]
theorem sI (w:World):Calls Tryz.prog 217 #[.int .u32 545503469] w fun e a=>e= .returned (.int .u32 3988292384)∧w=a:=by
 go_enter Tryz.func217,Tryz.ntmps217;go_wp2_with fail
 go_ret;exact ⟨Er (by decide+kernel),rfl⟩
theorem DC (w:World):Calls Tryz.prog 162 #[.int .u32 79764919] w fun e a=>e= .returned (.int .u32 3988292384)∧w=a:=by
 have b:∀(E:Int) (Q:Ending→World→Prop),E=545503469→(∀e a,e= .returned (.int .u32 3988292384)∧w=a→Q e a)→Calls Tryz.prog 217 #[.int .u32 E] w Q:=fun E Q c h=>by
  subst c;exact (sI w).mono h
 go_enter Tryz.func162,Tryz.ntmps162;go_wp2_with fail
 refine b _ _ (by decide+kernel) ?_;rintro e a ⟨rfl,rfl⟩;go_wp2_with fail
 go_ret;exact ⟨rfl,rfl⟩
theorem Cw {D:Nat} (h:D < 2 ^ 32):bits .xor .u32 ((D:Int) / 2) (bits .and .u32 (D:Int) 1 * 3988292384 % 4294967296)=((mP D:Nat):Int):=by
 have a:bits .and .u32 (D:Int) 1=((D % 2:Nat):Int):=by
  rw [show (1:Int)=((1:Nat):Int) from rfl,(bits_nat .u32 32 (by decide) od D 1 h (by decide)).1,Nat.and_one_is_mod]
 have b:((D:Int) / 2)=((D / 2:Nat):Int):=by omega
 rw [a,b]
 have c:(((D % 2:Nat):Int) * 3988292384 % 4294967296)=(((if D % 2=1 then Im else 0):Nat):Int):=by
  unfold Im
  split <;> omega
 rw [c,lJ .u32 32 (by decide) od _ _ (by omega) (by split <;> decide)]
 rfl
theorem Jr {C:Nat} (h:C < 2 ^ 32):bits .xor .u32 4294967295 (C:Int)=((4294967295 - C:Nat):Int):=by
 rw [show (4294967295:Int)=((4294967295:Nat):Int) from rfl,lJ .u32 32 (by decide) od _ _ (by decide) h]
 congr 1
 have:=BitVec.toNat_not (x:=BitVec.ofNat 32 C);have e:(BitVec.ofNat 32 C).toNat=C:=by rw [BitVec.toNat_ofNat];exact Nat.mod_eq_of_lt h
 rw [e] at this
 have x: ~~~(BitVec.ofNat 32 C)=BitVec.allOnes 32 ^^^ BitVec.ofNat 32 C:=by
  rw [BitVec.allOnes_xor]
 rw [x,BitVec.toNat_xor,e] at this;simpa using this
theorem vA (s:ByteArray) (w:World) (r:s.size≤maxLen):Calls Tryz.prog 113 #[.string s] w fun e o=>e= .returned (.int .u32 (sV s.data.toList))∧w=o:=by
 unfold maxLen at r;go_enter Tryz.func113,Tryz.ntmps113;go_wp2_with fail
 refine (DC _).mono ?_;rintro e o ⟨rfl,rfl⟩;go_wp2_with fail
 go_loop [4,10] (fun c i=>∃k C:Nat,k≤s.size∧i= .int .i64 k∧c= .int .u32 C∧Hid (C < 2 ^ 32)∧Hid (C=Ao 4294967295 (s.data.toList.take k))) (fun _ i=>s.size - (intOf i).toNat)
 case atStart=>exact ⟨0,4294967295,Nat.zero_le _,rfl,rfl,Lib.hid (by decide),rfl⟩
 case round=>
  obtain ⟨k,C,v,rfl,rfl,d,f⟩:=hrel
  by_cases m:k < s.size
  ·go_wp2_with fail
   go_loop [4,19] (fun c i=>∃j D:Nat,j≤8∧i= .int .i64 j∧c= .int .u32 D∧Hid (D=jq j (C ^^^ s[k].toNat))) (fun _ i=>8 - (intOf i).toNat)
   case atStart=>
    refine ⟨0,C ^^^ s[k].toNat,by omega,rfl,?_,rfl⟩
    have t:=s[k].toNat_lt;rw [show ((s[k].toNat:Int) % 4294967296)=((s[k].toNat:Nat):Int) by omega,lJ .u32 32 (by decide) od _ _ d.out (by omega)]
   case round=>
    obtain ⟨j,D,u,rfl,rfl,g⟩:=hrel;have a:Hid (D < 2 ^ 32):=Lib.hid (by rw [g.out];exact tZ j (Nat.xor_lt_two_pow d.out (by have:=s[k].toNat_lt;omega)))
    by_cases q:j < 8
    ·go_wp2_with fail
     refine ⟨⟨j+1,mP D,by omega,by go_num,?_,Lib.hid (by rw [g.out,pG])⟩,by simp [intOf];omega⟩
     rw [Cw a.out]
    ·have h:j=8:=by omega
     subst h;go_wp2_with fail
     refine ⟨⟨k+1,D,by omega,by go_num,rfl,a,Lib.hid ?_⟩,by simp [intOf];omega⟩
     rw [g.out,f.out,Cy _ _ k (by simpa using m),Cx];rfl
  ·have l:k=s.size:=by omega
   subst l;have p:=d.out
   have n:sV s.data.toList=4294967295 - C:=by
    unfold sV;rw [f.out,List.take_of_length_le (by simp)]
   have b:=Jr p;clear d f;go_wp2_with fail
   go_ret;refine ⟨Er ?_,rfl⟩;rw [show IntKind.u32.max=4294967295 from rfl];exact b
def ji (l:List UInt8):Option (List UInt8×List UInt8):=
 (fZ 4 l).bind fun a=>(fZ 4 a.2).bind fun b=>(bm a.1 b.2).bind fun c=>if sV c.1=b.1 then some c else none
def mI (o:Option (List UInt8×List UInt8)):Value:=
 match o with
 | some c=> .tuple #[.string (bs c.1),.string (bs c.2),.bool true]
 | none=> .tuple #[.string (bs []),.string (bs []),.bool false]
theorem Jb {w:World} {b:Nat} {o:Option (List UInt8)} {l:List UInt8} (h:gG w b o) (e:o=some l):w.cell? ⟨b,0,none⟩=some (.string (bs l))∧w.cell? ⟨b,1,none⟩=some (.bool false):=by
 subst e;exact ⟨by rw [Lib.cell_of_heap h.1];rfl,by rw [Lib.cell_of_heap h.1];rfl⟩
theorem Ja {w:World} {b:Nat} {o:Option (List UInt8)} (h:gG w b o) (e:o=none):w.cell? ⟨b,1,none⟩=some (.bool true):=by
 subst e;obtain ⟨l,h⟩:=h;rw [Lib.cell_of_heap h];rfl
theorem ph {w a c:World} (b:cJ [] w a) (d:aL w.heap.size a c):cJ [] w c:=
 ⟨by rw [d.1];exact b.1,fun k o e n=>by
  rw [d.2 k (by have:=sZ e;omega)];exact b.2 k o e n,b.3.trans d.3⟩
theorem EN (l:List UInt8) {m p s:Option (List UInt8)} {n q:Nat} {C:List UInt8}
  (h:((some l).bind (bm 4)).map (·.2)=m) (j:be (gK ((some l).bind (bm 4)))=n) (f:(m.bind (bm 4)).map (·.2)=p) (k:be (gK (m.bind (bm 4)))=q) (g:(p.bind (bm n)).map (·.2)=s) (o:gK (p.bind (bm n))=C):
  ji l=s.bind fun r=>if sV C=q then some (C,r) else none:=by
 obtain ⟨t,u⟩:=uM 4 (some l);rw [t] at h;rw [u] at j;obtain ⟨v,w⟩:=uM 4 m;rw [v] at f;rw [w] at k;have i:ji l=(fZ 4 l).bind fun a=>(fZ 4 a.2).bind fun b=>(bm a.1 b.2).bind fun c=>if sV c.1=b.1 then some c else none:=rfl;have A:(some l).bind (fZ 4)=fZ 4 l:=rfl;rw [A] at h j
 cases x:fZ 4 l with
 | none=>
  rw [x] at h i;subst h f g;rw [i];rfl
 | some a=>
  rw [x] at h j i;subst h j;have B:((some a).map (·.2)).bind (fZ 4)=fZ 4 a.2:=rfl;rw [B] at f k;have d:ji l=(fZ 4 a.2).bind fun b=>(bm a.1 b.2).bind fun c=>if sV c.1=b.1 then some c else none:=i
  cases y:fZ 4 a.2 with
  | none=>
   rw [y] at f d;subst f g;rw [d];rfl
  | some b=>
   rw [y] at f k d;subst f k;have D:((some b).map (·.2)).bind (bm (((some a).map (·.1)).getD 0))=bm a.1 b.2:=rfl;rw [D] at g o;have e:ji l=(bm a.1 b.2).bind fun c=>if sV c.1=b.1 then some c else none:=d
   cases z:bm a.1 b.2 with
   | none=>
    rw [z] at g e;subst g;rw [e];rfl
   | some c=>
    rw [z] at g o e;subst g o;rw [e];rfl
theorem Dy (l:List UInt8) (w:World) (hl:l.length≤maxLen):
  Calls Tryz.prog 74 #[.string (bs l)] w fun e m=>e= .returned (mI (ji l))∧cJ [] w m:=by
 obtain ⟨q,c⟩:∃q:World,w.alloc (.cells #[.string (bs l),.bool false] 187)=q:=⟨_,rfl⟩;have F:Hid (gG q w.heap.size (some l)):=Lib.hid ⟨by rw [←c];exact heap_alloc_new w _,hl⟩
 have W:Hid (cJ [] w q):=Lib.hid (by rw [←c];exact (cJ.refl _ w).alloc _);have G:=Lib.hid c;clear c
 have I:∀o:Option (List UInt8),be (gK (o.bind (bm 4)))≤4294967295:=fun o=>by
  have s:(gK (o.bind (bm 4))).length≤4:=by
   cases e:o.bind (bm 4) with
   | none=>simp [gK]
   | some x=>
    obtain ⟨l,b,a⟩:=cC e;obtain ⟨y,r⟩:=x;have:=(jH a).2.2.2;show y.length≤4;omega
  have:=sQ s;omega
 obtain ⟨t,J⟩:∃t,((some l).bind (bm 4)).map (·.2)=t:=⟨_,rfl⟩;obtain ⟨g,z⟩:∃g,be (gK ((some l).bind (bm 4)))=g:=⟨_,rfl⟩;obtain ⟨n,K⟩:∃n,(t.bind (bm 4)).map (·.2)=n:=⟨_,rfl⟩;obtain ⟨f,A⟩:∃f,be (gK (t.bind (bm 4)))=f:=⟨_,rfl⟩;obtain ⟨P,L⟩:∃P,(n.bind (bm g)).map (·.2)=P:=⟨_,rfl⟩;obtain ⟨C,v⟩:∃C,gK (n.bind (bm g))=C:=⟨_,rfl⟩;have u:=Lib.hid (EN l J z K A L v);have a1:g≤4294967295:=by rw [←z];exact I _
 have a2:f≤4294967295:=by rw [←A];exact I _
 have a0:C.length≤4294967295:=by
  rw [←v]
  cases e:n.bind (bm g) with
  | none=>simp [gK]
  | some x=>
   obtain ⟨l,b,a⟩:=cC e;obtain ⟨y,r⟩:=x;have:=(jH a).2.2.2;show y.length≤_;omega
 have i:=dZ w.heap.size 4 (some l) q F.out (by decide);have j:=fun m M=>dZ w.heap.size 4 t m M (by decide);have k:=fun m M=>iY w.heap.size g n m M (by unfold maxLen;omega);have d:=fun m=>vA (bs C) m (by rw [aG];unfold maxLen;omega);rw [J,z] at i;rw [K,A] at j;rw [L,v] at k;rw [aI] at d;have N:sV C≤4294967295:=by unfold sV;omega
 obtain ⟨Q,S⟩:∃Q,sV C=Q:=⟨_,rfl⟩;rw [S] at d N u;have B:=Lib.hid j;have D:=Lib.hid k;have E:=Lib.hid d;have sC:=aG C;clear J z K A L v j k d S I;go_enter Tryz.func74,Tryz.ntmps74;go_wp2_with fail
 rw [G.out];refine i.mono ?_;rintro e w1 ⟨rfl,b,a⟩;have U:=Lib.hid b;have X:=Lib.hid (ph W.out a);clear i b a;go_wp2_with fail
 refine (B.out _ U.out).mono ?_;rintro e w2 ⟨rfl,b,a⟩;have V:=Lib.hid b;have Y:=Lib.hid (ph X.out a);clear b a;go_wp2_with fail
 refine (D.out _ V.out).mono ?_;rintro e w3 ⟨rfl,b,a⟩;have R:=Lib.hid b;have H:=Lib.hid (ph Y.out a);clear b a
 cases P with
 | none=>
  have Z:=Ja R.out rfl;have p:Hid (mI (ji l)= .tuple #[.string (bs []),.string (bs []),.bool false]):=Lib.hid (by rw [u.out];rfl);go_wp2_with fail
  go_ret3
  exact ⟨by rw [p.out];rfl,H.out⟩
 | some r=>
  obtain ⟨c0,Z⟩:=Jb R.out rfl;go_wp2_with fail
  refine (E.out _).mono ?_;rintro e w4 ⟨rfl,rfl⟩;go_wp2_with fail
  ·rename_i h
   have O:¬Q=f:=by simp at h;omega
   have p:Hid (mI (ji l)= .tuple #[.string (bs []),.string (bs []),.bool false]):=Lib.hid (by
    rw [u.out];show mI (if Q=f then some (C,r) else none)=_
    rw [if_neg O];rfl)
   go_ret3
   exact ⟨by rw [p.out];rfl,H.out⟩
  ·have h:((Q:Int) != (f:Int))=false:=by assumption
   have T:Q=f:=by simp at h;omega
   have p:Hid (mI (ji l)= .tuple #[.string (bs C),.string (bs r),.bool true]):=Lib.hid (by
    rw [u.out];show mI (if Q=f then some (C,r) else none)=_
    rw [if_pos T];rfl)
   clear h T;go_quiet (fail)
   go_wp2_with fail
   go_ret3
   exact ⟨by rw [p.out];rfl,H.out.drewN _⟩
section
variable {P:Program} (w:World)
theorem gC (t J:TypeId) (h:Nat) (e:TypeId) (i:TypeInfo) (z:Value) (b d:Nat) (Q:P.underlying t=some (.slice e)) (M:P.info? e=some i) (W:i.zero=some z)
  (s:i.size=b) (G:i.bytes=d) (S:z.cells.size=b) (O:0 < b)
  (v:Value) (n:Nat) (K:List Value) (p:w.ownsRow h e b v n K)
  (B:Addr) (m c:Nat) (a:List Value) (I:a.length=m * b) (f:∀j u,a[j]? =some u→w.cell? (B.add j)=some u) (T:∀u∈a,u.oneCell'=true)
  (hm:0 < m) (F:n+m≤maxLen) (o:(n+m) * d≤140737488355328) (y:h≤w.heap.size):
  ∃g x A,(Builtin.append_ #[t,t] J #[v,.slice (some B) m c]).run P w= .ok (.slice (some ⟨g,0,none⟩) (n+m) x) A∧
   A.ownsRow h e b (.slice (some ⟨g,0,none⟩) (n+m) x) (n+m) (K++a)∧((v.ownBlock=some g∧w.grownBy A (some g))∨(g=w.heap.size∧w.grownBy A none)):=by
 obtain ⟨g,x,A,N,X,U,E,h5⟩:=run_append_lies (P:=P) w t J h e i z b d Q M W s G S O v n K p B m c a I f T hm F o y w.heap.size rfl;refine ⟨g,x,A,N,X,?_⟩
 rcases p.2 with ⟨rfl,_⟩ | ⟨D,l,C,rfl,Y,hg,a0,Z,L,R⟩
 ·rcases E with E | E
  ·cases E
  ·exact .inr ⟨E,U⟩
 ·have hb:(Value.slice (some ⟨D,0,none⟩) n l).ownBlock=some D:=rfl;subst s
  by_cases r:n+m≤l
  ·have H:n * i.size+a.length≤C.size:=by rw [I,L,←Nat.add_mul];exact Nat.mul_le_mul_right _ r
   have q:=run_append_room (P:=P) w t J e i Q M D n l C hg B m c a I f T r H;rw [N] at q;injection q with e1 e2;injection e1 with e1 _ _;injection e1 with e1;injection e1 with e1 _;subst e1;exact .inl ⟨rfl,U⟩
  ·subst G;have q:=run_append_grow (P:=P) w t J e i z Q M W ⟨D,0,none⟩ n l K p.1 (p.cells (g:=D) rfl) B m c a I f (by omega) (by simp only [maxLen] at F;omega) (growslice_fits (by omega) o);rw [N] at q;injection q with e1 e2;injection e1 with e1 _ _;injection e1 with e1;injection e1 with e1 _;subst e1;rw [e2];exact .inr ⟨rfl,⟨rfl,rfl,rfl,by simp,fun k V _=>(by first | exact heap_alloc_old w.drew _ k V | exact heap_alloc_old w.drew _ V)⟩⟩
end
structure jE (base:Nat) (w:World) (b:Nat) (v:Value) (acc:List UInt8):Prop where
 blk:∃p,(p=none∨p=some ⟨b,0,none⟩)∧w.heap[b]? =some (.cells #[.pointer p,v] 133 (0,0))
 row:w.ownsRowF base 5 1 v acc.length (Lib.byteCells acc)
 far:v.ownBlock≠some b
theorem wC (b:Nat) (v:Value) (p:Option Addr) (w:World) (c:p=none∨p=some ⟨b,0,none⟩) (h:w.heap[b]? =some (.cells #[.pointer p,v] 133 (0,0))):
  Calls Tryz.prog 135 #[.pointer (some ⟨b,0,none⟩)] w fun e a=>e= .returned (.tuple #[])∧a.heap[b]? =some (.cells #[.pointer (some ⟨b,0,none⟩),v] 133 (0,0))∧aL b w a:=by
 rcases c with rfl | rfl
 ·refine (Any.Builder_copyCheck_fresh (P:=Tryz.prog) {Tryz.lays159 with} Tryz.Builder_Extra_159.toX72 b w (by rw [Lib.cell_of_heap h];rfl) (by simp only [World.shape?,h];rfl) (Lib.frozen_of_heap h 0)).mono ?_;rintro e a ⟨rfl,rfl⟩;exact ⟨rfl,heap_setCell_same w b 0 _ _ _ h,(aL.refl _ _).setCell _⟩
 ·refine (Any.Builder_copyCheck_used (P:=Tryz.prog) {Tryz.lays159 with} Tryz.Builder_Extra_159.toX72 b w (by rw [Lib.cell_of_heap h];rfl)).mono ?_;rintro e a ⟨rfl,rfl⟩;exact ⟨rfl,h,aL.refl _ _⟩
theorem FN {w:World} {a d f n:Nat} {e:TypeId} {v:Value} {i:List Value} (h:w.ownsRowF a e f v n i) (m:d≤a):w.ownsRowF d e f v n i:=by
 refine ⟨h.1,?_⟩
 rcases h.2 with h | ⟨g,b,c,l,j,k,r⟩
 ·exact .inl h
 ·exact .inr ⟨g,b,c,l,j,Nat.le_trans m k,r⟩
theorem kk {w j:World} {a i n b:Nat} {e:TypeId} {v:Value} {k:List Value} (h:w.ownsRowF a e i v n k) (q:aL b w j) (p:v.ownBlock≠some b):j.ownsRowF a e i v n k:=by
 refine ⟨h.1,?_⟩
 rcases h.2 with h | ⟨g,c,d,o,f,l,m,r⟩
 ·exact .inl h
 ·exact .inr ⟨g,c,d,o,f,l,(q.2 g (fun e=>p (by rw [f,e];rfl))).trans m,r⟩
theorem jW {P:Program} (w:World) (c:Nat) (t u D e:TypeId) (i:TypeInfo) (G:P.underlying t=some (.slice e)) (H:P.underlying u=some .string) (E:P.info? e=some i) (O:i.zero=some (.int .u8 0))
  (a:i.size=1) (o:i.bytes=1) (v:Value) (n:Nat) (y:List Value) (b:w.ownsRowF c e 1 v n y) (s:ByteArray) (m:n+s.size≤maxLen) (d:n+s.size≤140737488355328) (f:c≤w.heap.size):
  ∃r x,(Builtin.append_ #[t,u] D #[v,.string s]).run P w= .ok r x∧x.ownsRowF c e 1 r (n+s.size) (y++Lib.strCells s)∧w.grownBy x v.ownBlock∧∀k,r.ownBlock=some k→v.ownBlock=some k∨w.heap.size≤k:=by
 rcases b.2 with ⟨rfl,rfl⟩ | ⟨g,h,z,R,rfl,S,U,L,V,T,K,M⟩
 ·obtain ⟨r,x,A,I,J,_⟩:=Lib.run_append_own_string (P:=P) w w.heap.size t u D e i G H E O a o (.slice none 0 0) 0 y ⟨b.1,.inl ⟨rfl,rfl⟩⟩ s m d (Nat.le_refl _);have B:=World.ownsRowF_of I;exact ⟨r,x,A,FN B f,J,fun k l=> .inr (B.lt k l).1⟩
 ·obtain ⟨r,x,A,I,J,_⟩:=Lib.run_append_own_stringF (P:=P) w c t u D e i G H E O a o _ n y b s m d f;refine ⟨r,x,A,I,J,fun k l=>?_⟩;have F:n+s.size≤9223372036854775807:=by simp only [maxLen] at m;omega
  have N:y.length=n:=by simpa using b.1
  by_cases q:n+s.size≤h
  ·have Q:z.size=h:=by simpa using K
   have C:=Lib.run_append_room_stringF (P:=P) w t u D e i G H E a g n h z R U (by simpa using L) s q (by omega);rw [A] at C;injection C with e1 _;rw [e1] at l;exact .inl l
  ·have p:∀j u,y[j]? =some u→w.cell? ((⟨g,0,none⟩:Addr).add j)=some u:=b.cells (g:=g) rfl;have C:=Lib.run_append_grow_string (P:=P) w t u D e i (.int .u8 0) G H E O ⟨g,0,none⟩ n h y (by rw [a];simpa using N) p s (by omega) (by omega) (by rw [o];exact growslice_fits (by omega) (by omega));rw [A] at C;injection C with e1 _;rw [e1] at l;injection l with l;exact .inr (Nat.le_of_eq l)
theorem iX {P:Program} {w:World} {c:Array Oper} {b:List Oper} {o:Oper} {a:Act} {Q:Exit→Act→World→Prop} (d:o.guard=none) (e x:Operand) (t u:TypeId)
  (i:o.op= .call {callee:= .builtin .append,args:=#[e,x],argTypes:=#[t,u]}) (v r:Value) (s:ByteArray) (f:World) (k:a.eval e=v) (l:a.eval x= .string s) (j:(Builtin.append_ #[t,u] o.type #[v,.string s]).run P w= .ok r f) (h:wpList P c Q b (a.put o.dst r) f):wpList P c Q (o::b) a w:=
 wpList_plain d fun K g=>by
  unfold Oper.wp execOp;simp only [i,resolve,invoke,builtin,Sem.run_bind,Sem.run_pure,Result.andThen_ok,List.map_toArray,List.map_cons,List.map_nil,k,l,j];exact g _ _ h
theorem lx:(Tryz.prog.info? 5).map (fun i=>(i.zero,i.size,i.bytes))=some (some (.int .u8 0),1,1):=by kernel_rfl
theorem lr (a l:List UInt8):Lib.byteCells (a++l)=Lib.byteCells a++Lib.strCells (bs l):=by simp [Lib.byteCells,Lib.strCells,bs]
theorem r8 (d b:Nat) (v:Value) (m l:List UInt8) (w:World) (h:jE d w b v m) (U:d≤w.heap.size) (a0:m.length+l.length≤140737488355328):
  Calls Tryz.prog 96 #[.pointer (some ⟨b,0,none⟩),.string (bs l)] w fun e I=>(∃r,e= .returned r)∧(∃H,jE d I b H (m++l)∧∀g,H.ownBlock=some g→v.ownBlock=some g∨w.heap.size≤g)∧(∀k o,w.heap[k]? =some o→k≠b→v.ownBlock≠some k→I.heap[k]? =some o)∧dU w I∧w.heap.size≤I.heap.size:=by
 obtain ⟨⟨p,hp,T⟩,A,z⟩:=h;obtain ⟨i,hi,W,X,Y⟩:=info_parts lx;have V:=aG l;have K:=Lib.hid (wC b v p w hp T);have HR:=Lib.hid A;have a1:b < w.heap.size:=(Array.getElem?_eq_some_iff.1 T).1;clear hp T A;go_enter Tryz.func96,Tryz.ntmps96;go_wp2_with fail
 refine K.out.mono ?_;rintro e Z ⟨rfl,D,q⟩;have c1:Z.cell? ⟨b,1,none⟩=some v:=by rw [Lib.cell_of_heap D];rfl
 have a2:Z.heap.size=w.heap.size:=q.1;obtain ⟨H,t,F,u,j,G⟩:=jW (P:=Tryz.prog) Z d 114 9 114 5 i Tryz.underlying114 Tryz.underlying9 hi W X Y v m.length (Lib.byteCells m) (kk HR.out q z) (bs l) (by unfold maxLen;omega) (by omega) (by omega);have s:t.heap[b]? =some (.cells #[.pointer (some ⟨b,0,none⟩),v] 133 (0,0)):=(j.block b (by omega) (fun e=>z e.symm)).trans D;have c2:t.cell? ⟨b,1,none⟩=some v:=by rw [Lib.cell_of_heap s];rfl
 have f2:=Lib.frozen_of_heap s 1
 have f:H.ownBlock≠some b:=fun e=>by
  rcases u.2 with ⟨C,_⟩ | ⟨g,R,S,fz,C,_,e3,_⟩
  ·rw [C] at e;cases e
  ·rw [C] at e;injection e with e;rw [show g=b from e,s] at e3;simp at e3
 obtain ⟨x,B,y,ev⟩:∃a n c,H= .slice a n c:=by
  rcases u.2 with ⟨C,_⟩ | ⟨g,R,S,fz,C,_⟩
  ·exact ⟨_,_,_,C⟩
  ·exact ⟨_,_,_,C⟩
 subst ev;have E:aL b t (t.setCell ⟨b,1,none⟩ (.slice x B y)):=(aL.refl _ _).setCell _
 have J:Hid (jE d (t.setCell ⟨b,1,none⟩ (.slice x B y)) b (.slice x B y) (m++l)):=Lib.hid ⟨⟨_,.inr rfl,heap_setCell_same t b 1 _ _ _ s⟩,by
  rw [lr,List.length_append,←V]
  exact kk u E f,f⟩
 have Q:=Lib.hid (fun g (h:(Value.slice x B y).ownBlock=some g)=>(G g h).imp id (fun h=>(by omega:w.heap.size≤g)));have L:Hid (∀k o,w.heap[k]? =some o→k≠b→v.ownBlock≠some k→(t.setCell ⟨b,1,none⟩ (.slice x B y)).heap[k]? =some o):=Lib.hid (fun k o e h1 h2=>(E.2 k h1).trans ((j.block k (by have:=(Array.getElem?_eq_some_iff.1 e).1;omega) (fun e'=>h2 e'.symm)).trans ((q.2 k h1).trans e)));have N:Hid (dU w (t.setCell ⟨b,1,none⟩ (.slice x B y))):=Lib.hid ((q.3.trans ⟨j.os,j.tape,j.output⟩).trans E.3);have O:Hid (w.heap.size≤(t.setCell ⟨b,1,none⟩ (.slice x B y)).heap.size):=Lib.hid (by rw [E.1];have:=j.size;omega);have M:=Lib.hid F;clear F u j G D q s E f
 go_wp2_with (first
  | (at_builtin;refine iX rfl _ _ 114 9 rfl v (.slice x B y) (bs l) t rfl rfl M.out ?_)
  | fail)
 go_ret2
 exact ⟨⟨_,rfl⟩,⟨_,J.out,Q.out⟩,L.out,N.out,O.out⟩
theorem gD {P:Program} {w:World} {b:Array Oper} {o:Oper} {a:Act} {K:Act→World→Prop} {Q:Exit→Act→World→Prop} {E:Prop} (c:o.guard=none) (s x:Operand) (t u:TypeId)
  (e:o.op= .call {callee:= .builtin .append,args:=#[s,x],argTypes:=#[t,u]}) (v y r:Value) (d:World) (g:a.eval s=v) (j:a.eval x=y) (f:(Builtin.append_ #[t,u] o.type #[v,y]).run P w= .ok r d) (h:K (a.put o.dst r) d):
  if Region.wanted o (yielded b a.tmps)=true then Oper.wp P o a w K Q else E:=by
 have i:Region.wanted o (yielded b a.tmps)=true:=by simp [Region.wanted,c]
 rw [if_pos i];unfold Oper.wp execOp;simp only [e,resolve,invoke,builtin,Sem.run_bind,Sem.run_pure,Result.andThen_ok,List.map_toArray,List.map_cons,List.map_nil,g,j,f];exact h
structure dW where
 text:List UInt8
 has:Bool
 bad:Bool
def jP:List UInt8→List UInt8
 | []=>[]
 | x::l=>if x=46 then l else x::l
theorem vY (l:List UInt8):(jP l).length≤l.length:=by
 cases l with
 | nil=>exact Nat.le_refl _
 | cons x l=>
  show (if x=46 then l else x::l).length≤_
  split <;> simp
theorem vZ (l:List UInt8):Lib.trimPrefix l [46]=jP l:=by
 cases l with
 | nil=>rfl
 | cons x l=>
  unfold Lib.trimPrefix Lib.hasPrefix jP
  by_cases h:x=46
  ·subst h;simp [List.isPrefixOf]
  ·have:(46:UInt8)≠x:=fun e=>h e.symm;simp [List.isPrefixOf,this,h]
def dW.add (B:dW) (t:List UInt8) (isBad:Bool) (size:Int):dW:=
 if size < (B.text.length:Int) then {B with bad:=B.bad || isBad} else ⟨(if B.has then B.text++[13,10] else B.text)++jP t,true,B.bad || isBad⟩
structure gl (w:World) (bb:Nat) (vt:Value) (B:dW):Prop where
 blk:w.heap[bb]? =some (.cells #[vt,.bool B.has,.bool B.bad] 253 (0,0))
 row:w.ownsRowF 0 5 1 vt B.text.length (Lib.byteCells B.text)
theorem DE {w:World} {b i n:Nat} {e:TypeId} {v:Value} {j:List Value} (h:w.ownsRowF b e i v n j):∃a m c,v= .slice a m c:=by
 rcases h.2 with ⟨e,_⟩ | ⟨g,d,f,k,e,_⟩
 ·exact ⟨_,_,_,e⟩
 ·exact ⟨_,_,_,e⟩
theorem vC {w:World} {b j n:Nat} {e:TypeId} {v:Value} {k:List Value} (h:w.ownsRowF b e j v n k):∃a c,v= .slice a n c:=by
 rcases h.2 with ⟨e,i⟩ | ⟨g,d,f,l,e,_⟩
 ·exact ⟨none,0,by rw [e,i]⟩
 ·exact ⟨_,_,e⟩
theorem gB {w:World} {b j n g:Nat} {e:TypeId} {v:Value} {k:List Value} (h:w.ownsRowF b e j v n k) (a:v.ownBlock=some g):∃c z,w.heap[g]? =some (.cells c e z):=by
 rcases h.2 with ⟨d,_⟩ | ⟨m,f,c,l,d,_,i,_⟩
 ·rw [d] at a;cases a
 ·rw [d] at a;injection a with a;subst a;exact ⟨_,_,i⟩
theorem BA {A:Nat→Prop} {w i:World} {a f n:Nat} {e:TypeId} {v:Value} {j:List Value} (h:w.ownsRowF a e f v n j) (o:aH A w i) (p:∀g,v.ownBlock=some g→¬A g):i.ownsRowF a e f v n j:=by
 refine ⟨h.1,?_⟩
 rcases h.2 with h | ⟨g,b,c,m,d,k,l,r⟩
 ·exact .inl h
 ·exact .inr ⟨g,b,c,m,d,k,o.some_ l (p g (by rw [d];rfl)),r⟩
theorem gl.far {w:World} {a:Nat} {c:Value} {B:dW} (h:gl w a c B):c.ownBlock≠some a:=fun e=>by
 obtain ⟨d,z,b⟩:=gB h.row e;rw [h.blk] at b;simp at b
theorem gl.chg {A:Nat→Prop} {w d:World} {a:Nat} {b:Value} {B:dW} (h:gl w a b B) (c:aH A w d) (e:¬A a) (f:∀g,b.ownBlock=some g→¬A g):gl d a b B:=⟨c.some_ h.blk e,BA h.row c f⟩
theorem gl.app {w:World} {b:Nat} {g:Value} {B:dW} (h:gl w b g B) (l:List UInt8) (x:B.text.length+l.length≤140737488355328):
  ∃a n c o,(Builtin.append_ #[114,9] 114 #[g,.string (bs l)]).run Tryz.prog w= .ok (.slice a n c) o∧gl (o.setCell ⟨b,0,none⟩ (.slice a n c)) b (.slice a n c) ⟨B.text++l,B.has,B.bad⟩∧o.heap[b]? =some (.cells #[g,.bool B.has,.bool B.bad] 253 (0,0))∧aH (fun k=>g.ownBlock=some k) w o∧∀k,(Value.slice a n c).ownBlock=some k→g.ownBlock=some k∨w.heap.size≤k:=by
 obtain ⟨i,C,s,t,u⟩:=info_parts lx;have q:=aG l;obtain ⟨D,m,p,f,j,r⟩:=jW (P:=Tryz.prog) w 0 114 9 114 5 i Tryz.underlying114 Tryz.underlying9 C s t u g B.text.length (Lib.byteCells B.text) h.row (bs l) (by unfold maxLen;omega) (by omega) (Nat.zero_le _);obtain ⟨a,n,c,rfl⟩:=DE f;have d:m.heap[b]? =some (.cells #[g,.bool B.has,.bool B.bad] 253 (0,0)):=(j.block b (ah h.blk) (fun e=>h.far e.symm)).trans h.blk;refine ⟨a,n,c,m,p,⟨heap_setCell_same m b 0 _ _ _ d,?_⟩,d,aH.grown j,r⟩;have y:aL b m (m.setCell ⟨b,0,none⟩ (.slice a n c)):=(aL.refl _ _).setCell _;rw [lr,List.length_append,←q];refine kk f y (fun e=>?_);obtain ⟨A,z,v⟩:=gB f e;rw [d] at v;simp at v
theorem ED (b:Bool) (c:Nat) (n:Value) (d:List UInt8) (i:Bool) (t:List UInt8) (a:Bool) (g:Int) (w:World) (h:gl w c n ⟨d,i,b⟩) (hB:d.length≤1073741824) (ht:t.length≤1048576):
  Calls Tryz.prog 140 #[.pointer (some ⟨c,0,none⟩),.agg #[.string (bs t),.bool a],.int .i64 g] w fun e w'=>e= .returned (.tuple #[])∧∃a5,gl w' c a5 (dW.add ⟨d,i,b⟩ t a g)∧aH (fun k=>k=c∨n.ownBlock=some k) w w'∧∀k,a5.ownBlock=some k→n.ownBlock=some k∨w.heap.size≤k:=by
 obtain ⟨o,a1⟩:∃o:World,w.alloc (.cells #[.string (bs t),.bool a] 138)=o:=⟨_,rfl⟩;have T:Below w.heap.size w o:=by rw [←a1];exact (Below.refl _ _).alloc (Nat.le_refl _) _
 have I:o.heap[w.heap.size]? =some (.cells #[.string (bs t),.bool a] 138 (0,0)):=by rw [←a1];exact heap_alloc_new w _
 have bl:=ah h.blk;have p:c≠w.heap.size:=by omega
 have B:gl o c n ⟨d,i,b⟩:=h.chg (A:=fun _=>False) (aH.below T) (fun e=>e) (fun _ _ e=>e);have u:aL c o (o.setCell ⟨c,2,none⟩ (.bool (b || a))):=(aL.refl _ _).setCell _;have j:gl (o.setCell ⟨c,2,none⟩ (.bool (b || a))) c n ⟨d,i,b || a⟩:=⟨heap_setCell_same o c 2 _ _ (.bool (b || a)) B.blk,kk B.row u B.far⟩;have l0:o.cell? ⟨w.heap.size,0,none⟩=some (.string (bs t)):=by rw [Lib.cell_of_heap I];rfl
 have l1:o.cell? ⟨w.heap.size,1,none⟩=some (.bool a):=by rw [Lib.cell_of_heap I];rfl
 have c2:o.cell? ⟨c,2,none⟩=some (.bool b):=by rw [Lib.cell_of_heap B.blk];rfl
 have f2:=Lib.frozen_of_heap B.blk 2;obtain ⟨m,y⟩:∃m:World,o.setCell ⟨c,2,none⟩ (.bool (b || a))=m:=⟨_,rfl⟩;rw [y] at j u;have m0:m.cell? ⟨w.heap.size,0,none⟩=some (.string (bs t)):=(u.cell (Ne.symm p)).trans l0;have c0:m.cell? ⟨c,0,none⟩=some n:=by rw [Lib.cell_of_heap j.blk];rfl
 have c1:m.cell? ⟨c,1,none⟩=some (.bool i):=by rw [Lib.cell_of_heap j.blk];rfl
 have f0:=Lib.frozen_of_heap j.blk 0;have f1:=Lib.frozen_of_heap j.blk 1;obtain ⟨av,cv,ev⟩:=vC j.row;simp only at ev;have J:m.heap[w.heap.size]? =some (.cells #[.string (bs t),.bool a] 138 (0,0)):=(u.2 _ (Ne.symm p)).trans I;have R:aH (fun k=>k=c∨n.ownBlock=some k) w m:=(aH.below T).trans (aH.same u) (fun _ _ e=> .inl e);have b5:w.heap.size < m.heap.size:=by rw [u.1];exact ah I
 have a6:=Lib.hid j;have V:=Lib.hid R;have b3:=Lib.hid J;have Z:=Lib.hid (vY t)
 have a0:Hid (∀W:World,Calls Tryz.prog 197 #[.string (bs t),.string ⟨#[46]⟩] W fun e w'=>e= .returned (.string (bs (jP t)))∧W=w'):=Lib.hid (fun W=>(Tryz.strings_TrimPrefix (bs t) ⟨#[46]⟩ W).mono (by
  rintro e w' ⟨rfl,rfl⟩
  exact ⟨by rw [←vZ];rfl,rfl⟩))
 by_cases O:g < (d.length:Int)
 ·have X:Hid (dW.add ⟨d,i,b⟩ t a g=⟨d,i,b || a⟩):=Lib.hid (by simp [dW.add,O]);clear h B j T I u J R;subst ev
  cases b
  all_goals
   simp only [Bool.true_or,Bool.false_or] at y;go_enter Tryz.func140,Tryz.ntmps140;go_wp2_with fail
   refine bodyPost_ret (v:= .tuple #[]) (by simp [results,Tryz.results140,go_sem]) rfl ?_;exact ⟨rfl,_,by rw [X.out];exact a6.out,V.out,fun k e=> .inl e⟩
 ·cases i with
  | false=>
   have X:Hid (dW.add ⟨d,false,b⟩ t a g=⟨d++jP t,true,b || a⟩):=Lib.hid (by simp [dW.add,O]);have s:gl (m.setCell ⟨c,1,none⟩ (.bool true)) c n ⟨d,true,b || a⟩:=⟨heap_setCell_same m c 1 _ _ (.bool true) j.blk,kk j.row ((aL.refl _ _).setCell _) j.far⟩;have x:aL c m (m.setCell ⟨c,1,none⟩ (.bool true)):=(aL.refl _ _).setCell _;obtain ⟨f,M⟩:∃f:World,m.setCell ⟨c,1,none⟩ (.bool true)=f:=⟨_,rfl⟩;rw [M] at s x;have X2:f.heap[w.heap.size]? =some (.cells #[.string (bs t),.bool a] 138 (0,0)):=(x.2 _ (Ne.symm p)).trans J;have n0:f.drew.cell? ⟨w.heap.size,0,none⟩=some (.string (bs t)):=by show f.cell? _=_;rw [Lib.cell_of_heap X2];rfl
   have d0:f.drew.cell? ⟨c,0,none⟩=some n:=by show f.cell? _=_;rw [Lib.cell_of_heap s.blk];rfl
   obtain ⟨a3,n3,c3,C,q,U,l,K3,r⟩:=gl.app (w:=f.drew) (s.chg (A:=fun _=>False) (aH.below ((Below.refl _ _).drew)) (fun e=>e) (fun _ _ e=>e)) (jP t) (by simp only;have:=Z.out;omega);have d3:C.cell? ⟨c,0,none⟩=some n:=by rw [Lib.cell_of_heap l];rfl
   have f3:=Lib.frozen_of_heap l 0;have Y:=Lib.hid x;have F:=Lib.hid U;have a7:=Lib.hid K3;have G:=Lib.hid q;have H:=Lib.hid r;clear h B j T I u J R s x X2 U K3 q r l;subst ev
   cases b
   all_goals
    simp only [Bool.true_or,Bool.false_or] at y;go_enter Tryz.func140,Tryz.ntmps140;go_wp2_with fail
    go_region_law (first
     | (refine gD rfl _ _ 114 9 rfl _ _ _ C rfl rfl G.out ?_)
     | (go_simp;go_at_call 197;refine (a0.out f.drew).mono ?_;rintro e w9 ⟨rfl,rfl⟩;dsimp only))
    all_goals
     go_wp2_with fail
     refine bodyPost_end (results_none rfl _ _ _) rfl ?_;refine ⟨rfl,_,by rw [X.out];exact F.out,?_,?_⟩
     ·exact ((V.out.trans (aH.same Y.out) (fun _ _ e=> .inl e)).trans ((aH.below ((Below.refl _ _).drew)).trans a7.out (fun k _ e=>e):aH (fun k=>(Value.slice av d.length cv).ownBlock=some k) f C) (fun _ _ e=> .inr e)).trans (aH.same ((aL.refl _ _).setCell _)) (fun _ _ e=> .inl e)
     ·exact fun k e=>(H.out k e).imp id (fun e=>by have:=Y.out.1;have:f.heap.size≤k:=e;omega)
  | true=>
   have X:Hid (dW.add ⟨d,true,b⟩ t a g=⟨d++[13,10]++jP t,true,b || a⟩):=Lib.hid (by simp [dW.add,O]);obtain ⟨K,Q,L,S,a2,E,N,K4,P⟩:=j.app [13,10] (by simp only [List.length_cons,List.length_nil];omega);have d4:S.cell? ⟨c,0,none⟩=some n:=by rw [Lib.cell_of_heap N];rfl
   have f4:=Lib.frozen_of_heap N 0;have S5:aL c S (S.setCell ⟨c,0,none⟩ (.slice K Q L)):=(aL.refl _ _).setCell _;obtain ⟨D,b0⟩:∃D:World,S.setCell ⟨c,0,none⟩ (.slice K Q L)=D:=⟨_,rfl⟩;rw [b0] at E S5;have d5:D.cell? ⟨c,1,none⟩=some (.bool true):=by rw [Lib.cell_of_heap E.blk];rfl
   have f5:=Lib.frozen_of_heap E.blk 1;have s:gl (D.setCell ⟨c,1,none⟩ (.bool true)) c (.slice K Q L) ⟨d++[13,10],true,b || a⟩:=⟨heap_setCell_same D c 1 _ _ (.bool true) E.blk,kk E.row ((aL.refl _ _).setCell _) E.far⟩;have x:aL c D (D.setCell ⟨c,1,none⟩ (.bool true)):=(aL.refl _ _).setCell _;obtain ⟨f,M⟩:∃f:World,D.setCell ⟨c,1,none⟩ (.bool true)=f:=⟨_,rfl⟩;rw [M] at s x;have K2:aH (fun k=>k=c∨n.ownBlock=some k) w f:=((R.trans K4 (fun _ _ e=> .inr e)).trans (aH.same S5) (fun _ _ e=> .inl e)).trans (aH.same x) (fun _ _ e=> .inl e)
   have X4:S.heap[w.heap.size]? =some (.cells #[.string (bs t),.bool a] 138 (0,0)):=K4.some_ J (fun e=>by
    obtain ⟨b4,z,h1⟩:=gB j.row e;rw [J] at h1
    simp at h1)
   have X2:f.heap[w.heap.size]? =some (.cells #[.string (bs t),.bool a] 138 (0,0)):=(x.2 _ (Ne.symm p)).trans ((S5.2 _ (Ne.symm p)).trans X4);have n0:f.drew.cell? ⟨w.heap.size,0,none⟩=some (.string (bs t)):=by show f.cell? _=_;rw [Lib.cell_of_heap X2];rfl
   have d0:f.drew.cell? ⟨c,0,none⟩=some (.slice K Q L):=by show f.cell? _=_;rw [Lib.cell_of_heap s.blk];rfl
   obtain ⟨a3,n3,c3,C,q,U,l,K3,r⟩:=gl.app (w:=f.drew) (s.chg (A:=fun _=>False) (aH.below ((Below.refl _ _).drew)) (fun e=>e) (fun _ _ e=>e)) (jP t) (by simp only [List.length_append,List.length_cons,List.length_nil];have:=Z.out;omega);have d3:C.cell? ⟨c,0,none⟩=some (.slice K Q L):=by rw [Lib.cell_of_heap l];rfl
   have f3:=Lib.frozen_of_heap l 0;have b2:w.heap.size≤f.heap.size:=K2.size;have b1:w.heap.size≤m.heap.size:=R.size;have KF:aH (fun k=>k=c∨n.ownBlock=some k) w C:=K2.trans ((aH.below ((Below.refl _ _).drew)).trans K3 (fun k _ e=>e):aH (fun k=>(Value.slice K Q L).ownBlock=some k) f C) (fun k hk e=>(P k e).elim (fun e=> .inr e) (fun e=>absurd hk (by omega)));have H:Hid (∀k,(Value.slice a3 n3 c3).ownBlock=some k→n.ownBlock=some k∨w.heap.size≤k):=Lib.hid (fun k e=>(r k e).elim (fun e=>(P k e).imp id (fun e=>by omega)) (fun e=> .inr (by have:f.heap.size≤k:=e;omega)));have F:=Lib.hid U;have a8:=Lib.hid KF;have G:=Lib.hid q;have a9:=Lib.hid a2;clear h B j T I u J R s x X2 U K3 q r l E N K4 P a2 S5 K2 X4 KF;subst ev
   cases b
   all_goals
    simp only [Bool.true_or,Bool.false_or] at y;go_enter Tryz.func140,Tryz.ntmps140
    go_wp2_with (first
     | (at_builtin;refine iX rfl _ _ 114 9 rfl _ (.slice K Q L) (bs [13,10]) S rfl rfl a9.out ?_)
     | fail)
    go_region_law (first
     | (refine gD rfl _ _ 114 9 rfl _ _ _ C rfl rfl G.out ?_)
     | (go_simp;go_at_call 197;refine (a0.out f.drew).mono ?_;rintro e w9 ⟨rfl,rfl⟩;dsimp only))
    all_goals
     go_wp2_with fail
     refine bodyPost_end (results_none rfl _ _ _) rfl ?_;exact ⟨rfl,_,by rw [X.out];exact F.out,a8.out.trans (aH.same ((aL.refl _ _).setCell _)) (fun _ _ e=> .inl e),H.out⟩
theorem Ah (c:Nat) (f:Value) (B:dW) (t:List UInt8) (a:Bool) (b:Int) (w:World) (h:gl w c f B) (m:B.text.length≤1073741824) (n:t.length≤1048576):
  Calls Tryz.prog 140 #[.pointer (some ⟨c,0,none⟩),.agg #[.string (bs t),.bool a],.int .i64 b] w fun e l=>e= .returned (.tuple #[])∧∃d,gl l c d (B.add t a b)∧aH (fun k=>k=c∨f.ownBlock=some k) w l∧∀k,d.ownBlock=some k→f.ownBlock=some k∨w.heap.size≤k:=by
 obtain ⟨j,i,g⟩:=B;exact ED g c f j i t a b w h m n
def jA (verb:Int) (greeted:Bool) (tx:Option Nat):Bool:=
 if verb=5 then (match tx with | none=>false | some n=>decide (0 < n)) && greeted
 else if verb=10 then tx.isSome && greeted
 else if verb=8∨verb=9 then greeted else true
theorem Dw (sb k:Nat) (C:Array Value) (o:List (List UInt8)) (a:Int) (g:Bool) (w:World) (h:bT w sb k C o) (l:C[5]? =some (.bool g)) (m:C[8]? =some (.pointer none)):
  Calls Tryz.prog 141 #[.pointer (some ⟨sb,0,none⟩),.int .i64 a] w fun e i=>e= .returned (.bool (jA a g none))∧w=i:=by
 have q:=(h.cell 5).trans l;have r:=(h.cell 8).trans m;have j:=Lib.hid (oV w);clear h
 by_cases c:a=5
 ·subst c;go_enter Tryz.func141,Tryz.ntmps141;go_wp2_with fail
  refine j.out.mono ?_;rintro e i ⟨rfl,rfl⟩;go_wp2_with fail
  go_ret;exact ⟨rfl,rfl⟩
 ·by_cases b:a=10
  ·subst b;go_enter Tryz.func141,Tryz.ntmps141;go_wp2_with fail
   go_ret;exact ⟨rfl,rfl⟩
  ·by_cases d:a=8
   ·subst d;go_enter Tryz.func141,Tryz.ntmps141;go_wp2_with fail
    go_ret;exact ⟨rfl,rfl⟩
   ·by_cases f:a=9
    ·subst f;go_enter Tryz.func141,Tryz.ntmps141;go_wp2_with fail
     go_ret;exact ⟨rfl,rfl⟩
    ·have s:(a == 5)=false:=by rw [beq_eq_false_iff_ne];exact c
     have p:(a == 10)=false:=by rw [beq_eq_false_iff_ne];exact b
     have t:(a == 8)=false:=by rw [beq_eq_false_iff_ne];exact d
     have u:(a == 9)=false:=by rw [beq_eq_false_iff_ne];exact f
     have n:jA a g none=true:=by unfold jA;rw [if_neg c,if_neg b,if_neg (by omega)]
     rw [n];go_enter Tryz.func141,Tryz.ntmps141;go_wp2_with fail
     go_ret;exact ⟨rfl,rfl⟩
theorem Dx (sb r k n c:Nat) (a:Option Addr) (C:Array Value) (u:List (List UInt8)) (b:Int) (g:Bool) (w:World) (h:bT w sb r C u) (s:C[5]? =some (.bool g)) (t:C[8]? =some (.pointer (some ⟨k,0,none⟩))) (q:w.cell? ⟨k,1,none⟩=some (.slice a n c)):
  Calls Tryz.prog 141 #[.pointer (some ⟨sb,0,none⟩),.int .i64 b] w fun e l=>e= .returned (.bool (jA b g (some n)))∧w=l:=by
 have x:=(h.cell 5).trans s;have y:=(h.cell 8).trans t;have i:=Lib.hid (pO k n c a w q);clear h q
 by_cases j:b=5
 ·subst j;have f:jA 5 g (some n)=(decide (0 < n) && g):=rfl;rw [f]
  by_cases p:0 < n
  ·rw [decide_eq_true p] at i ⊢;go_enter Tryz.func141,Tryz.ntmps141;go_wp2_with fail
   refine i.out.mono ?_;rintro e l ⟨rfl,rfl⟩;go_wp2_with fail
   go_ret;exact ⟨by simp,rfl⟩
  ·rw [decide_eq_false p] at i ⊢;go_enter Tryz.func141,Tryz.ntmps141;go_wp2_with fail
   refine i.out.mono ?_;rintro e l ⟨rfl,rfl⟩;go_wp2_with fail
   go_ret;exact ⟨by simp,rfl⟩
 ·by_cases d:b=10
  ·subst d;have f:jA 10 g (some n)=g:=by cases g <;> rfl
   rw [f];go_enter Tryz.func141,Tryz.ntmps141;go_wp2_with fail
   go_ret;exact ⟨rfl,rfl⟩
  ·by_cases m:b=8
   ·subst m;go_enter Tryz.func141,Tryz.ntmps141;go_wp2_with fail
    go_ret;exact ⟨rfl,rfl⟩
   ·by_cases o:b=9
    ·subst o;go_enter Tryz.func141,Tryz.ntmps141;go_wp2_with fail
     go_ret;exact ⟨rfl,rfl⟩
    ·have z:(b == 5)=false:=by rw [beq_eq_false_iff_ne];exact j
     have v:(b == 10)=false:=by rw [beq_eq_false_iff_ne];exact d
     have A:(b == 8)=false:=by rw [beq_eq_false_iff_ne];exact m
     have B:(b == 9)=false:=by rw [beq_eq_false_iff_ne];exact o
     have f:jA b g (some n)=true:=by unfold jA;rw [if_neg j,if_neg d,if_neg (by omega)]
     rw [f];go_enter Tryz.func141,Tryz.ntmps141;go_wp2_with fail
     go_ret;exact ⟨rfl,rfl⟩
theorem Cp {w:World} {g:Nat} (n:Nat):aH (fun k=>k=g) w (w.freeze ⟨g,0,none⟩ n):=by
 obtain ⟨a,b,c⟩:(∀k,k≠g→(w.freeze ⟨g,0,none⟩ n).heap[k]? =w.heap[k]?)∧(w.freeze ⟨g,0,none⟩ n).heap.size=w.heap.size∧dU w (w.freeze ⟨g,0,none⟩ n):=by
  unfold World.freeze
  split
  ·exact ⟨fun _ _=>rfl,rfl,dU.refl w⟩
  ·refine ⟨fun k d=>?_,by simp,⟨rfl,rfl,rfl⟩⟩
   show (w.heap.modify g _)[k]? =_;rw [Array.getElem?_modify,if_neg (fun e=>d e.symm)]
 exact ⟨by rw [b];exact Nat.le_refl _,fun k _ f=>a k f,c⟩
theorem BQ (b g a:Nat) (d:Array Value) (s:Nat×Nat) (p:Option Addr) (l:List UInt8) (w:World) (h:l≠[]) (t:w.heap[b]? =some (.cells #[.pointer p,.slice (some ⟨g,0,none⟩) l.length a] 133 (0,0))) (u:w.heap[g]? =some (.cells d 5 s)) (q:l.length≤a) (f:a≤maxLen) (m:d.size=a) (c:∀j x,l[j]? =some x→w.cell? ((⟨g,0,none⟩:Addr).add j)=some (.int .u8 x.toNat)):
  Calls Tryz.prog 64 #[.pointer (some ⟨b,0,none⟩)] w fun e y=>e= .returned (.string (bs l))∧w.drew.freeze ⟨g,0,none⟩ l.length=y:=by
 have o:l.length≠0:=by simpa using h
 have z:w.drew.cell? ⟨b,1,none⟩=some (.slice (some ⟨g,0,none⟩) l.length a):=by
  have:w.drew.heap[b]? =some (.cells #[.pointer p,.slice (some ⟨g,0,none⟩) l.length a] 133 (0,0)):=t;rw [Lib.cell_of_heap this];rfl
 have i:(Builtin.unsafeSliceData_ #[114] (Tryz.lays169_ren.t 127) #[.slice (some ⟨g,0,none⟩) l.length a]).run Tryz.prog w.drew= .ok (.pointer (some ⟨g,0,none⟩)) w.drew:=
  Lib.run_unsafeSliceData_row _ _ _ _ _ _ (by omega)
 have k:(Builtin.unsafeString_ #[(Tryz.lays169_ren.t 127),3] 9 #[.pointer (some ⟨g,0,none⟩),.int .i64 l.length]).run Tryz.prog w.drew= .ok (.string ⟨l.toArray⟩) (w.drew.freeze ⟨g,0,none⟩ l.length):=by
  refine Lib.run_unsafeString_row w.drew _ 3 9 5 Tryz.lays169.t127 Tryz.Builder_Extra_169.cellsByte g d.size (by have n:w.drew.heap[g]? =some (.cells d 5 s):=u;simp [World.shape?,n]) l h (by omega) (by unfold maxLen at f;omega) ?_;exact fun j x v=>c j x v
 simp only [Tryz.lays169_ren] at i k;clear t u q f m c h o;have r:=Tryz.lays169.mixed;go_enter Tryz.func64,Tryz.ntmps64;go_wp2_with fail
 go_region_o
 all_goals (go_wp2;go_ret;exact ⟨rfl,rfl⟩)
theorem DP (b:Nat) (p:Option Addr) (w:World) (f:w.heap[b]? =some (.cells #[.pointer p,.slice none 0 0] 133 (0,0))):
  Calls Tryz.prog 64 #[.pointer (some ⟨b,0,none⟩)] w fun e g=>e= .returned (.string (bs []))∧w.drew=g:=by
 have c:=Any.unsafeString_none Tryz.lays169 Tryz.Builder_Extra_169
 have h:w.drew.cell? ⟨b,1,none⟩=some (.slice none 0 0):=by
  have:w.drew.heap[b]? =some (.cells #[.pointer p,.slice none 0 0] 133 (0,0)):=f;rw [Lib.cell_of_heap this];rfl
 have a:(Builtin.unsafeSliceData_ #[114] (Tryz.lays169_ren.t 127) #[.slice none 0 0]).run Tryz.prog w.drew= .ok (.pointer none) w.drew:=rfl;simp only [Tryz.lays169_ren] at a c;clear f;have d:=Tryz.lays169.mixed;go_enter Tryz.func64,Tryz.ntmps64;go_wp2_with fail
 go_region_o
 all_goals (go_wp2;go_ret;exact ⟨rfl,rfl⟩)
theorem BP (b g a:Nat) (p:Option Addr) (w:World) (c:a≠0) (i:w.heap[b]? =some (.cells #[.pointer p,.slice (some ⟨g,0,none⟩) 0 a] 133 (0,0))):
  Calls Tryz.prog 64 #[.pointer (some ⟨b,0,none⟩)] w fun e j=>e= .returned (.string (bs []))∧w.drew=j:=by
 have f:=Any.unsafeString_none Tryz.lays169 Tryz.Builder_Extra_169
 have k:w.drew.cell? ⟨b,1,none⟩=some (.slice (some ⟨g,0,none⟩) 0 a):=by
  have:w.drew.heap[b]? =some (.cells #[.pointer p,.slice (some ⟨g,0,none⟩) 0 a] 133 (0,0)):=i;rw [Lib.cell_of_heap this];rfl
 have d:(Builtin.unsafeSliceData_ #[114] (Tryz.lays169_ren.t 127) #[.slice (some ⟨g,0,none⟩) 0 a]).run Tryz.prog w.drew= .ok (.pointer (some ⟨g,0,none⟩)) w.drew:=
  Lib.run_unsafeSliceData_row _ _ _ _ _ _ c
 simp only [Tryz.lays169_ren] at d f;clear i c;have h:=Tryz.lays169.mixed;go_enter Tryz.func64,Tryz.ntmps64;go_wp2_with fail
 go_region_o
 all_goals (go_wp2;go_ret;exact ⟨rfl,rfl⟩)
theorem xg (b g:Nat) (p:Option Addr) (a:Array Value) (k:Nat×Nat) (w:World) (c:w.heap[b]? =some (.cells #[.pointer p,.slice (some ⟨g,0,none⟩) 0 0] 133 (0,0))) (l:w.heap[g]? =some (.cells a 5 k)):
  Calls Tryz.prog 64 #[.pointer (some ⟨b,0,none⟩)] w fun e q=>e= .returned (.string (bs []))∧Below w.heap.size w q:=by
 have f:=Any.unsafeString_none Tryz.lays169 Tryz.Builder_Extra_169;have i:=ah c
 have n:w.drew.cell? ⟨b,1,none⟩=some (.slice (some ⟨g,0,none⟩) 0 0):=by
  have:w.drew.heap[b]? =some (.cells #[.pointer p,.slice (some ⟨g,0,none⟩) 0 0] 133 (0,0)):=c;rw [Lib.cell_of_heap this];rfl
 have d:(Builtin.unsafeSliceData_ #[114] (Tryz.lays169_ren.t 127) #[.slice (some ⟨g,0,none⟩) 0 0]).run Tryz.prog w.drew= .ok (.pointer (some ⟨w.drew.heap.size,0,none⟩)) (w.drew.alloc (.view ⟨g,0,none⟩ 5)):=
  Lib.run_unsafeSliceData_zero w.drew _ _ 5 Tryz.lays169.t127 ⟨g,0,none⟩ 0 (5,a.size) (by have h:w.drew.heap[g]? =some (.cells a 5 k):=l;simp [World.shape?,h])
 have o:(w.drew.alloc (.view ⟨g,0,none⟩ 5)).cell? ⟨b,1,none⟩=some (.slice (some ⟨g,0,none⟩) 0 0):=by
  have:(w.drew.alloc (.view ⟨g,0,none⟩ 5)).heap[b]? =_:=(Lib.alloc_old w.drew _ b i).trans c;rw [Lib.cell_of_heap this];rfl
 have s:(w.alloc (.view ⟨g,0,none⟩ 5)).drew.cell? ⟨b,1,none⟩=some (.slice (some ⟨g,0,none⟩) 0 0):=o;have r:w.cell? ⟨b,1,none⟩=some (.slice (some ⟨g,0,none⟩) 0 0):=n;have m:Hid (Below w.heap.size w (w.drew.alloc (.view ⟨g,0,none⟩ 5))):=Lib.hid ((Below.drew (Below.refl _ w)).alloc (Nat.le_refl _) _);simp only [Tryz.lays169_ren] at d f;clear c l;have j:=Tryz.lays169.mixed;go_enter Tryz.func64,Tryz.ntmps64;go_wp2_with fail
 go_region_o
 all_goals (go_wp2;go_ret;exact ⟨rfl,m.out⟩)
theorem mi (d b:Nat) (v:Value) (a:List UInt8) (w:World) (h:jE d w b v a):
  Calls Tryz.prog 64 #[.pointer (some ⟨b,0,none⟩)] w fun e i=>e= .returned (.string (bs a))∧aH (fun k=>v.ownBlock=some k) w i:=by
 obtain ⟨p,_,l⟩:=h.blk
 rcases h.row.2 with ⟨e,D⟩ | ⟨g,c,f,r,e,A,u,B,o,m,n,q⟩
 ·obtain rfl:a=[]:=List.length_eq_zero_iff.1 D;subst e;refine (DP b p w l).mono ?_;rintro e i ⟨rfl,rfl⟩;exact ⟨rfl,aH.below (Below.drew (Below.refl _ w))⟩
 ·subst e
  by_cases s:a=[]
  ·subst s
   by_cases t:c=0
   ·subst t;refine (xg b g p f r w l u).mono ?_;rintro e i ⟨rfl,z⟩;exact ⟨rfl,aH.below z⟩
   ·refine (BP b g c p w t l).mono ?_;rintro e i ⟨rfl,rfl⟩;exact ⟨rfl,aH.below (Below.drew (Below.refl _ w))⟩
  ·refine (BQ b g c f r p a w s l u o m (by simpa using n) ?_).mono ?_
   ·intro j x C;have:=h.row.cells (g:=g) rfl j (.int .u8 x.toNat) (by simp [Lib.byteCells,C]);exact this
   ·rintro e i ⟨rfl,rfl⟩;refine ⟨rfl,?_⟩;have y:aH (fun k=>k=g) w w.drew:=aH.below (Below.drew (Below.refl _ w));exact (y.trans (Cp a.length) (fun _ _ e=>e)).mono (fun k _ e=>by rw [e];rfl)
open Go.RowKit Go.Shelf
def mE (l:List Nat):List Nat:=l.mergeSort (fun x y=>decide (x≤y))
theorem qe (l:List Nat):aZ l=(l.map fun (n:Nat)=>(n:Int)).map (Value.int .i64):=by unfold aZ;rw [List.map_map];rfl
theorem FR (l:List Nat):(l.map fun (n:Nat)=>(n:Int)).mergeSort (fun x y=>decide (x≤y))=(mE l).map fun (n:Nat)=>(n:Int):=by
 unfold mE;rw [List.map_mergeSort (s:=fun x y=>decide (x≤y))];intro a _ b _;rw [Bool.eq_iff_iff];simp only [decide_eq_true_eq];omega
theorem yg (B:Nat) (v:Value) (l:List Nat) (w:World) (h:w.ownsRow B 3 1 v l.length (aZ l)) (x:l.length≤1000):
  Calls Tryz.prog 94 #[v] w fun e d=>e= .returned (.tuple #[])∧d.ownsRow B 3 1 v l.length (aZ (mE l))∧aH (fun k=>v.ownBlock=some k) w d:=by
 have c:(mE l).length=l.length:=List.length_mergeSort _
 rcases h.2 with ⟨rfl,o⟩ | ⟨g,a,b,rfl,t,f,p,q,r,s⟩
 ·have i:l=[]:=List.eq_nil_of_length_eq_zero o;subst i;refine (AnyM.slices_Sort_int_none Tryz.sortA none 0 w).mono ?_;rintro e d ⟨rfl,rfl⟩;exact ⟨rfl,by simpa [mE] using h,aH.refl _ _⟩
 ·have u:Go.Sort.Holds (Value.int .i64) w g 0 (l.map fun (n:Nat)=>(n:Int)).toArray:=holds_of_blockI f (by rw [List.length_map,←qe,←s,Nat.mul_one]);have j:=AnyM.slices_Sort_int Tryz.sortA g 0 a (l.map fun (n:Nat)=>(n:Int)) w u (ah f) (by rw [List.length_map];omega);rw [List.length_map] at j;refine j.mono ?_;rintro e d ⟨rfl,n,m,rfl⟩;rw [FR];refine ⟨rfl,?_,(aH.grown (grownBy_sortedI _)).mono (fun k _ e=>by rw [show (Value.slice (some ⟨g,0,none⟩) l.length a).ownBlock=some g from rfl];exact e)⟩;have:=ownsRow_sortedI (w:=w) (base:=B) (g:=g) (cap:=a) (n:=n) (e:=3) (os:=m) (cur:=b) (ss:=l.map fun (n:Nat)=>(n:Int)) (ts:=(mE l).map fun (n:Nat)=>(n:Int)) (by rw [List.length_map,List.length_map,c]) t f (by rw [List.length_map];exact p) q r;rw [List.length_map] at this;rw [qe];exact this
end Go.Proofs.YtofpegbpgkkgkaaGreatDoor
