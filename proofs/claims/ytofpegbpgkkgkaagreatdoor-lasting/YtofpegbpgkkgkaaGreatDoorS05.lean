import Derived.Test.YtofpegbpgkkgkaaGreatDoorS02
import Derived.Deep.RegionLaw
import Derived.Deep.AppendLies
import Derived.BigRegion
import Derived.Deep.Onto
import Derived.Lib.FrozenHead
import Derived.Lib.DecodeN
import Derived.Laws.CopyRow
import Derived.Maps.OwnSet
import Derived.WalkArith
import Derived.Maps.RangeRun
namespace Go.Proofs.YtofpegbpgkkgkaaGreatDoor
set_option maxHeartbeats 8000000
set_option maxRecDepth 1000000
open Go.RowKit
theorem lJ (k:IntKind) (j:Nat) (l:j≤k.bits) (m:∀n:Int,0≤n→n < 2 ^ j→k.wrap n=n) (a b:Nat) (f:a < 2 ^ j) (g:b < 2 ^ j):bits .xor k a b=((a ^^^ b:Nat):Int):=by
 have i:2 ^ j≤2 ^ k.bits:=Nat.pow_le_pow_right (by decide) l;have d:a % 2 ^ k.bits=a:=Nat.mod_eq_of_lt (Nat.lt_of_lt_of_le f i);have e:b % 2 ^ k.bits=b:=Nat.mod_eq_of_lt (Nat.lt_of_lt_of_le g i);have c:∀n:Nat,n < 2 ^ j→((n:Nat):Int) < 2 ^ j:=fun n h=>by exact_mod_cast h
 simp only [bits,BitVec.ofInt_natCast,BitVec.toNat_xor,BitVec.toNat_ofNat,d,e];exact m _ (Int.natCast_nonneg _) (c _ (Nat.xor_lt_two_pow f g))
theorem Gb (n:Int) (a:0≤n) (b:n < 2 ^ 32):IntKind.i64.wrap n=n:=by rw [IntKind.wrap_i64];omega
theorem Ga (n:Int):IntKind.u32.wrap n=n % 4294967296:=by simp [IntKind.wrap,IntKind.bits,IntKind.signed]
theorem od (n:Int) (a:0≤n) (b:n < 2 ^ 32):IntKind.u32.wrap n=n:=by rw [Ga];omega
theorem Dc {P:Program} {t e:TypeId} {z:Value} {d a:Nat} (k:P.underlying t=some (.slice e)) (b:(P.info? e).map (fun i=>(i.zero,i.size,i.bytes))=some (some z,d,a)) (n:Nat) (g:a * n≤281474976710656) (m:n≤140737488351232) (w:World):
  (Instr.makeSlice t (.int .i64 (n:Int)) (.int .i64 (n:Int))).run P w= .ok (.slice (some ⟨w.heap.size,0,none⟩) n n) (w.alloc (.cells (madeCells z.cells (n * d)) e)):=by
 obtain ⟨i,h,l,j,c⟩:=info_parts b
 have:=run_make (P:=P) w t e i z k h l .i64 .i64 (n:Int) (n:Int) (by omega) (Int.le_refl _) (by
   have f:((a:Int) * (n:Int))=((a * n:Nat):Int):=by rw [Int.natCast_mul]
   rw [c,f]
   generalize a * n=q at g
   omega) (by omega)
 rw [show ((n:Int)).toNat=n by omega,j] at this
 exact this
theorem pA:∀(j n:Nat),az (j+1) n=UInt8.ofNat (n / 256 ^ j)::az j n
 | 0,n=>by simp [az]
 | j+1,n=>by
  rw [az,pA j,az,Nat.div_div_eq_div_mul,←Nat.pow_succ'];rfl
def sO (w:World) (b m j n:Nat):Prop:=∃A:Array Value,w.heap[b]? =some (.cells A 5 (0,0))∧A.toList=List.replicate (m - j) (.int .u8 0)++Lib.byteCells (az j n)
theorem sO.size {m j n:Nat} {A:Array Value} (a:j≤m) (h:A.toList=List.replicate (m - j) (.int .u8 0)++Lib.byteCells (az j n)):A.size=m:=by
 have:=congrArg List.length h;rw [List.length_append,List.length_replicate,Lib.byteCells_length,bf,Array.length_toList] at this;omega
theorem sO.set {w:World} {b m j n N I:Nat} (h:sO w b m j n) (k:j < m) (c:I=m - (j+1)) (d:N=n / 256 ^ j):sO (w.setCell ⟨b,I,none⟩ (.int .u8 ((N:Int) % 256))) b m (j+1) n:=by
 have a:((N:Int) % 256)=(n:Int) / 256 ^ j % 256:=by rw [d];simp
 rw [a,c];clear a d c;obtain ⟨A,f,g⟩:=h;refine ⟨A.setIfInBounds (m - (j+1)) (.int .u8 ((n:Int) / 256 ^ j % 256)),heap_setCell_same w b _ A _ _ f,?_⟩
 have i:((n:Int) / 256 ^ j % 256)=((UInt8.ofNat (n / 256 ^ j)).toNat:Int):=by
  rw [UInt8.toNat_ofNat',show ((n:Int) / 256 ^ j)=((n / 256 ^ j:Nat):Int) by simp]
  omega
 rw [Array.toList_setIfInBounds,g,i,pA]
 have e:List.replicate (m - j) (Value.int .u8 0)=List.replicate (m - (j+1)) (.int .u8 0)++[.int .u8 0]:=by
  rw [show m - j=(m - (j+1))+1 by omega,List.replicate_succ']
 rw [e,List.append_assoc,List.set_append_right _ _ (by simp)];simp [Lib.byteCells]
def gu (w:World) (q id t:Nat) (f:List UInt8) (v:Value) (b:List UInt8):Prop:=w.heap[q]? =some (.cells #[.int .i64 id,.int .i64 t,.string (bs f),v,.string (bs b)] 45 (0,0))
theorem gu.same {w d:World} {q c t s:Nat} {f b:List UInt8} {v:Value} (h:gu w q c t f v b) (e:aL s w d) (a:q≠s):gu d q c t f v b:=by
 unfold gu at h ⊢;rw [e.2 q a];exact h
theorem gu.cell {w:World} {q a t:Nat} {f b:List UInt8} {v:Value} (h:gu w q a t f v b) (j:Nat):w.cell? ⟨q,j,none⟩=(#[.int .i64 a,.int .i64 t,.string (bs f),v,.string (bs b)]:Array Value)[j]? ∧w.frozen? ⟨q,j,none⟩=false:=
 ⟨Lib.cell_of_heap h j,Lib.frozen_of_heap h j⟩
theorem nR:(Tryz.prog.info? 9).map (fun i=>(i.zero,i.size,i.bytes))=some (some (.string ⟨#[]⟩),1,16):=by kernel_rfl
theorem dJ {w i:World} {a f n b:Nat} {e:TypeId} {v:Value} {j:List Value} (h:w.ownsRow a e f v n j) (p:aL b w i) (q:b < a):i.ownsRow a e f v n j:=by
 refine ⟨h.1,?_⟩
 rcases h.2 with h | ⟨g,c,d,k,l,m,o⟩
 ·exact .inl h
 ·exact .inr ⟨g,c,d,k,l,(p.2 g (by omega)).trans m,o⟩
def gG (w:World) (b:Nat) (o:Option (List UInt8)):Prop:=
 match o with
 | some l=>w.heap[b]? =some (.cells #[.string (bs l),.bool false] 187 (0,0))∧l.length≤maxLen
 | none=>∃l:List UInt8,w.heap[b]? =some (.cells #[.string (bs l),.bool true] 187 (0,0))
def gK (o:Option (List UInt8×List UInt8)):List UInt8:=(o.map (·.1)).getD []
theorem iY (b k:Nat) (o:Option (List UInt8)) (w:World) (h:gG w b o) (q:k≤maxLen):
  Calls Tryz.prog 112 #[.pointer (some ⟨b,0,none⟩),.int .i64 k] w fun e i=>e= .returned (.string (bs (gK (o.bind (bm k)))))∧gG i b ((o.bind (bm k)).map (·.2))∧aL b w i:=by
 unfold maxLen at q
 cases o with
 | none=>
  obtain ⟨l,a⟩:=h;have j:w.cell? ⟨b,0,none⟩=some (.string (bs l)):=by rw [Lib.cell_of_heap a];rfl
  have m:w.cell? ⟨b,1,none⟩=some (.bool true):=by rw [Lib.cell_of_heap a];rfl
  have n:w.frozen? ⟨b,1,none⟩=false:=Lib.frozen_of_heap a 1;have d:=Lib.hid a;clear a;go_enter Tryz.func112,Tryz.ntmps112;go_wp2_with fail
  go_ret;exact ⟨rfl,⟨l,heap_setCell_same w b 1 _ _ (.bool true) d.out⟩,(aL.refl b w).setCell _⟩
 | some l=>
  obtain ⟨a,g⟩:=h;unfold maxLen at g;have j:w.cell? ⟨b,0,none⟩=some (.string (bs l)):=by rw [Lib.cell_of_heap a];rfl
  have m:w.cell? ⟨b,1,none⟩=some (.bool false):=by rw [Lib.cell_of_heap a];rfl
  have r:w.frozen? ⟨b,0,none⟩=false:=Lib.frozen_of_heap a 0;have n:w.frozen? ⟨b,1,none⟩=false:=Lib.frozen_of_heap a 1;have s:=aG l;have d:=Lib.hid a;clear a
  by_cases c:k≤l.length
  ·have p:decide ((l.length:Int) < (k:Int))=false:=by simp;omega
   have f:decide (l.length < k)=false:=by simp;omega
   go_enter Tryz.func112,Tryz.ntmps112;go_wp2_with fail
   simp only [fW,List.drop_zero,List.take_length];have e:(some l).bind (bm k)=some (l.take k,l.drop k):=by show bm k l=_;unfold bm;rw [if_pos c]
   go_ret;rw [e];exact ⟨rfl,⟨heap_setCell_same w b 0 _ _ (.string (bs (l.drop k))) d.out,by rw [List.length_drop];unfold maxLen;omega⟩,(aL.refl b w).setCell _⟩
  ·have p:decide ((l.length:Int) < (k:Int))=true:=by simp;omega
   have f:decide (l.length < k)=true:=by simp;omega
   go_enter Tryz.func112,Tryz.ntmps112;go_wp2_with fail
   have e:(some l).bind (bm k)=none:=by show bm k l=_;unfold bm;rw [if_neg c]
   go_ret;rw [e];exact ⟨rfl,⟨l,heap_setCell_same w b 1 _ _ (.bool true) d.out⟩,(aL.refl b w).setCell _⟩
theorem Jt {N x:Nat} (a:N < 16777216) (b:x < 256):bits .or .i64 (wrap64 ((N:Int) * 256)) (x:Int)=((256 * N+x:Nat):Int):=by
 rw [IV _ (by omega),bits_join .i64 32 (by decide) Gb 8 _ _ (by omega) (by omega) (by omega) (by omega) (by omega) (by omega)];omega
theorem dZ (b k:Nat) (o:Option (List UInt8)) (w:World) (h:gG w b o) (F:k≤4):
  Calls Tryz.prog 111 #[.pointer (some ⟨b,0,none⟩),.int .i64 k] w fun e v=>e= .returned (.int .i64 (be (gK (o.bind (bm k)))))∧gG v b ((o.bind (bm k)).map (·.2))∧aL b w v:=by
 have a:=iY b k o w h (by unfold maxLen;omega)
 have d:(gK (o.bind (bm k))).length≤4:=by
  cases e:o.bind (bm k) with
  | none=>simp [gK]
  | some x=>
   obtain ⟨l,m,c⟩:=cC e;obtain ⟨y,r⟩:=x;have:=(jH c).2.2.2;show y.length≤4;omega
 obtain ⟨t,s⟩:∃t,gK (o.bind (bm k))=t:=⟨_,rfl⟩;obtain ⟨r,u⟩:∃r,(o.bind (bm k)).map (·.2)=r:=⟨_,rfl⟩;rw [s] at d;rw [s,u] at a ⊢;clear s u h;have G:=aG t;go_enter Tryz.func111,Tryz.ntmps111;go_wp2_with fail
 refine a.mono ?_;rintro e H ⟨rfl,m,c⟩;have z:=Lib.hid m;have A:=Lib.hid c;clear a m c;go_wp2_with fail
 go_loop [6,13] (fun n i=>∃j N:Nat,j≤t.length∧i= .int .i64 j∧n= .int .i64 N∧Hid (N=be (t.take j))) (fun _ i=>t.length - (intOf i).toNat)
 case atStart=>exact ⟨0,0,Nat.zero_le _,rfl,rfl,rfl⟩
 case round=>
  obtain ⟨j,N,E,rfl,rfl,g⟩:=hrel
  by_cases q:j < t.length
  ·have f:j < (bs t).size:=by omega
   have B:Hid (N < 16777216):=Lib.hid (by
    rw [g.out];have m:=Ad (t.take j);have c:256 ^ (t.take j).length≤256 ^ 3:=Nat.pow_le_pow_right (by decide) (by rw [List.length_take];omega);have D:256 ^ 3=16777216:=by decide
    omega)
   go_wp2_with fail
   refine ⟨⟨j+1,be (t.take (j+1)),by omega,by go_num,?_,rfl⟩,by simp [intOf];omega⟩
   refine congrArg (Value.int .i64) ?_;rw [I4 t j q,←Gt t j f,←g.out];have C:=((bs t)[j]).toNat_lt;rw [IV (((bs t)[j]).toNat:Int) (by omega)];exact Jt B.out C
  ·have p:j=t.length:=by omega
   subst p;rw [List.take_length] at g;go_wp2_with fail
   go_ret;exact ⟨congrArg (fun x:Nat=>Ending.returned (.int .i64 (x:Int))) g.out,z.out,A.out⟩
theorem J7 (k:Nat) (o:Option (List UInt8)):((o.bind (bm k)).map (·.2)).bind (bm (be (gK (o.bind (bm k)))))=o.bind (wm k):=by
 cases o with
 | none=>rfl
 | some l=>
  show ((bm k l).map (·.2)).bind (bm (be (gK (bm k l))))=wm k l;unfold wm fZ bm
  by_cases h:k≤l.length
  ·rw [if_pos h,if_pos h];rfl
  ·rw [if_neg h,if_neg h];rfl
theorem uM (k:Nat) (o:Option (List UInt8)):(o.bind (bm k)).map (·.2)=(o.bind (fZ k)).map (·.2)∧be (gK (o.bind (bm k)))=((o.bind (fZ k)).map (·.1)).getD 0:=by
 cases o with
 | none=>exact ⟨rfl,rfl⟩
 | some l=>
  show (bm k l).map (·.2)=(fZ k l).map (·.2)∧be (gK (bm k l))=((fZ k l).map (·.1)).getD 0;unfold fZ bm
  by_cases h:k≤l.length
  ·rw [if_pos h,if_pos h];exact ⟨rfl,rfl⟩
  ·rw [if_neg h,if_neg h];exact ⟨rfl,rfl⟩
theorem oT (b k:Nat) (o:Option (List UInt8)) (w:World) (h:gG w b o) (F:k≤4):
  Calls Tryz.prog 163 #[.pointer (some ⟨b,0,none⟩),.int .i64 k] w fun e i=>e= .returned (.string (bs (gK (o.bind (wm k)))))∧gG i b ((o.bind (wm k)).map (·.2))∧aL b w i:=by
 have c:=dZ b k o w h F
 have v:be (gK (o.bind (bm k)))≤maxLen:=by
  have f:(gK (o.bind (bm k))).length≤4:=by
   cases e:o.bind (bm k) with
   | none=>simp [gK]
   | some x=>
    obtain ⟨l,q,g⟩:=cC e;obtain ⟨y,r⟩:=x;have:=(jH g).2.2.2;show y.length≤4;omega
  have:=sQ f;unfold maxLen;omega
 have a:=fun i E=>iY b (be (gK (o.bind (bm k)))) ((o.bind (bm k)).map (·.2)) i E v;rw [J7] at a;obtain ⟨N,m⟩:∃N,be (gK (o.bind (bm k)))=N:=⟨_,rfl⟩;obtain ⟨r,n⟩:∃r,(o.bind (bm k)).map (·.2)=r:=⟨_,rfl⟩;obtain ⟨t,p⟩:∃t,gK (o.bind (wm k))=t:=⟨_,rfl⟩;obtain ⟨z,d⟩:∃z,(o.bind (wm k)).map (·.2)=z:=⟨_,rfl⟩;rw [m,n] at c;rw [m,n,p,d] at a;rw [p,d];have j:=Lib.hid a;clear a v m n p d h;go_enter Tryz.func163,Tryz.ntmps163;go_wp2_with fail
 refine c.mono ?_;rintro e G ⟨rfl,q,g⟩;have A:=Lib.hid q;have B:=Lib.hid g;clear c q g;go_wp2_with fail
 refine (j.out _ A.out).mono ?_;rintro e H ⟨rfl,s,u⟩;have C:=Lib.hid s;have D:=Lib.hid (B.out.trans u);clear s u;go_wp2_with fail
 go_ret;exact ⟨rfl,C.out,D.out⟩
theorem ue (b:Nat) (o:Option (List UInt8)) (w:World) (h:gG w b o):
  Calls Tryz.prog 164 #[.pointer (some ⟨b,0,none⟩)] w fun e f=>e= .returned (.bool (decide (o=some [])))∧w=f:=by
 cases o with
 | none=>
  obtain ⟨l,a⟩:=h;have c:w.cell? ⟨b,0,none⟩=some (.string (bs l)):=by rw [Lib.cell_of_heap a];rfl
  have d:w.cell? ⟨b,1,none⟩=some (.bool true):=by rw [Lib.cell_of_heap a];rfl
  clear a;go_enter Tryz.func164,Tryz.ntmps164;go_wp2_with fail
  go_ret;exact ⟨cG (by simp),rfl⟩
 | some l=>
  obtain ⟨a,_⟩:=h;have c:w.cell? ⟨b,0,none⟩=some (.string (bs l)):=by rw [Lib.cell_of_heap a];rfl
  have d:w.cell? ⟨b,1,none⟩=some (.bool false):=by rw [Lib.cell_of_heap a];rfl
  clear a;go_enter Tryz.func164,Tryz.ntmps164;go_wp2_with fail
  go_ret;exact ⟨cG (by rw [Lib.toList_data,aI];cases l <;> simp),rfl⟩
def gj (k:Nat) (o:Option (List UInt8)):Nat×Option (List UInt8):=(be (gK (o.bind (bm k))),(o.bind (bm k)).map (·.2))
def jX (k:Nat) (o:Option (List UInt8)):List UInt8×Option (List UInt8):=(gK (o.bind (wm k)),(o.bind (wm k)).map (·.2))
def jh:Nat→Option (List UInt8)→List (List UInt8)×Option (List UInt8)
 | 0,o=>([],o)
 | n+1,o=>((jh n o).1++[(jX 1 (jh n o).2).1],(jX 1 (jh n o).2).2)
def iM:Nat→Option (List UInt8)→List Nat×Option (List UInt8)
 | 0,o=>([],o)
 | n+1,o=>((iM n o).1++[(gj 1 (iM n o).2).1],(gj 1 (iM n o).2).2)
def mG {α:Type} (x:α×Option (List UInt8)):Option (α×List UInt8):=x.2.map fun r=>(x.1,r)
theorem kh (k:Nat):gj k none=(0,none):=rfl
theorem rl (k:Nat):jX k none=([],none):=rfl
theorem pj:∀n,(jh n none).2=none
 | 0=>rfl
 | n+1=>by rw [jh,pj n];rfl
theorem l7:∀n,(iM n none).2=none
 | 0=>rfl
 | n+1=>by rw [iM,l7 n];rfl
theorem jI (k:Nat) (l:List UInt8):fZ k l=mG (gj k (some l)):=by
 unfold gj mG fZ;show _=((bm k l).map (·.2)).map _;unfold bm
 by_cases h:k≤l.length
 ·rw [if_pos h,if_pos h];show _=some (be (gK ((some l).bind fun l=>if k≤l.length then some (l.take k,l.drop k) else none)),l.drop k);rw [sb,if_pos h];rfl
 ·rw [if_neg h,if_neg h];rfl
theorem wc (k:Nat) (l:List UInt8):wm k l=mG (jX k (some l)):=by
 unfold jX mG;show _=((wm k l).map (·.2)).map fun r=>(gK (wm k l),r)
 cases wm k l with
 | none=>rfl
 | some x=>rfl
theorem wh:∀(n:Nat) (o:Option (List UInt8)),jh (n+1) o=((jX 1 o).1::(jh n (jX 1 o).2).1,(jh n (jX 1 o).2).2)
 | 0,o=>rfl
 | n+1,o=>by
  rw [jh,wh n o];rw [jh];rfl
theorem uO:∀(n:Nat) (o:Option (List UInt8)),iM (n+1) o=((gj 1 o).1::(iM n (gj 1 o).2).1,(iM n (gj 1 o).2).2)
 | 0,o=>rfl
 | n+1,o=>by
  rw [iM,uO n o];rw [iM];rfl
theorem yo:∀(n:Nat) (l:List UInt8),xp n l=mG (jh n (some l))
 | 0,l=>rfl
 | n+1,l=>by
  rw [xp,wc,wh]
  cases h:(jX 1 (some l)).2 with
  | none=>
   have e:mG (jX 1 (some l))=none:=by unfold mG;rw [h];rfl
   rw [e];unfold mG;rw [pj];rfl
  | some r=>
   have e:mG (jX 1 (some l))=some ((jX 1 (some l)).1,r):=by unfold mG;rw [h];rfl
   rw [e,sb,yo n r];unfold mG
   cases (jh n (some r)).2 <;> rfl
theorem uP:∀(n:Nat) (l:List UInt8),oB n l=mG (iM n (some l))
 | 0,l=>rfl
 | n+1,l=>by
  rw [oB,jI,uO]
  cases h:(gj 1 (some l)).2 with
  | none=>
   have e:mG (gj 1 (some l))=none:=by unfold mG;rw [h];rfl
   rw [e];unfold mG;rw [l7];rfl
  | some r=>
   have e:mG (gj 1 (some l))=some ((gj 1 (some l)).1,r):=by unfold mG;rw [h];rfl
   rw [e,sb,uP n r];unfold mG
   cases (iM n (some r)).2 <;> rfl
theorem Db (r:List UInt8) {m k n l o j:Option (List UInt8)} {I T N:Nat} {f B:List UInt8} {p:List (List UInt8)} (s:gj 4 (some r)=(I,m)) (g:gj 4 m=(T,k)) (i:jX 1 k=(f,n)) (a:gj 1 n=(N,l)) (q:jh N l=(p,o)) (b:jX 2 o=(B,j)):
  nk r=if j=some [] then some ⟨I,T,f,p,B⟩ else none:=by
 have c:l=none→j=none:=fun e=>by
  subst e;have:=pj N;rw [q] at this;simp only at this;subst this;rw [rl] at b;injection b with _ b;exact b.symm
 have d:k=none→j=none:=fun e=>by
  subst e;rw [rl] at i;injection i with _ i;subst i;rw [kh] at a;injection a with _ a;exact c a.symm
 unfold nk;rw [jI,s]
 cases m with
 | none=>
  rw [kh] at g;injection g with _ g;rw [d g.symm];rfl
 | some r1=>
  show ((fZ 4 r1).bind _)=_;rw [jI,g]
  cases k with
  | none=>rw [d rfl];rfl
  | some r2=>
   show ((wm 1 r2).bind _)=_;rw [wc,i]
   cases n with
   | none=>
    rw [kh] at a;injection a with _ a;rw [c a.symm];rfl
   | some r3=>
    show ((fZ 1 r3).bind _)=_;rw [jI,a]
    cases l with
    | none=>rw [c rfl];rfl
    | some r4=>
     show ((xp N r4).bind _)=_;rw [yo,q]
     cases o with
     | none=>
      rw [rl] at b;injection b with _ b;rw [←b];rfl
     | some r5=>
      show ((wm 2 r5).bind _)=_;rw [wc,b]
      cases j with
      | none=>rfl
      | some r6=>
       show (if r6=[] then _ else _)=_
       by_cases h:r6=[]
       ·rw [if_pos h,if_pos (by rw [h])]
       ·rw [if_neg h,if_neg (by intro e;injection e with e;exact h e)]
theorem C4 (r:List UInt8) {f c d:Option (List UInt8)} {I N:Nat} {g:List Nat} (j:gj 4 (some r)=(I,f)) (b:gj 1 f=(N,c)) (i:iM N c=(g,d)):
  rI r=if d=some [] then some (I,g) else none:=by
 have a:c=none→d=none:=fun e=>by
  subst e;have:=l7 N;rw [i] at this;exact this
 unfold rI;rw [jI,j]
 cases f with
 | none=>
  rw [kh] at b;injection b with _ b;rw [a b.symm];rfl
 | some r1=>
  show ((fZ 1 r1).bind _)=_;rw [jI,b]
  cases c with
  | none=>rw [a rfl];rfl
  | some r2=>
   show ((oB N r2).bind _)=_;rw [uP,i]
   cases d with
   | none=>rfl
   | some r3=>
    show (if r3=[] then _ else _)=_
    by_cases h:r3=[]
    ·rw [if_pos h,if_pos (by rw [h])]
    ·rw [if_neg h,if_neg (by intro e;injection e with e;exact h e)]
theorem lZ (k:Nat) (o:Option (List UInt8)):(gj k o).1 < 256 ^ k:=by
 unfold gj
 cases e:o.bind (bm k) with
 | none=>exact Nat.pow_pos (by decide)
 | some x=>
  obtain ⟨l,_,a⟩:=cC e;obtain ⟨y,r⟩:=x;have:=(jH a).2.2.2;have h:=Ad y;rw [this] at h;exact h
theorem tj (k:Nat) (o:Option (List UInt8)):(jX k o).1.length < 256 ^ k:=by
 unfold jX
 cases e:o.bind (wm k) with
 | none=>exact Nat.pow_pos (by decide)
 | some x=>
  obtain ⟨l,_,a⟩:=cC e;obtain ⟨y,r⟩:=x;exact (ti a).2.2.2
theorem yp:∀(n:Nat) (o:Option (List UInt8)),(jh n o).1.length=n
 | 0,_=>rfl
 | n+1,o=>by rw [jh,List.length_append,yp n];rfl
theorem BZ:∀(n:Nat) (o:Option (List UInt8)),∀t∈(jh n o).1,t.length < 256
 | 0,_,t,h=>by cases h
 | n+1,o,t,h=>by
  rw [jh] at h
  rcases List.mem_append.1 h with h | h
  ·exact BZ n o t h
  ·simp only [List.mem_singleton] at h;subst h;exact tj 1 _
theorem xW:∀(n:Nat) (o:Option (List UInt8)),(iM n o).1.length=n
 | 0,_=>rfl
 | n+1,o=>by rw [iM,List.length_append,xW n];rfl
theorem Bp:∀(n:Nat) (o:Option (List UInt8)),∀x∈(iM n o).1,x < 256
 | 0,_,t,h=>by cases h
 | n+1,o,t,h=>by
  rw [iM] at h
  rcases List.mem_append.1 h with h | h
  ·exact Bp n o t h
  ·simp only [List.mem_singleton] at h;subst h;exact lZ 1 _
theorem Er {a b:Int} (h:a=b):Ending.returned (.int .u32 a)= .returned (.int .u32 b):=by rw [h]
theorem sI (w:World):Calls Tryz.prog 217 #[.int .u32 545503469] w fun e a=>e= .returned (.int .u32 3988292384)∧w=a:=by
 go_enter Tryz.func217,Tryz.ntmps217;go_wp2_with fail
 go_ret;exact ⟨Er (by decide+kernel),rfl⟩
theorem DC (w:World):Calls Tryz.prog 162 #[.int .u32 79764919] w fun e a=>e= .returned (.int .u32 3988292384)∧w=a:=by
 have b:∀(E:Int) (Q:Ending→World→Prop),E=545503469→(∀e a,e= .returned (.int .u32 3988292384)∧w=a→Q e a)→Calls Tryz.prog 217 #[.int .u32 E] w Q:=fun E Q c h=>by
  subst c;exact (sI w).mono h
 go_enter Tryz.func162,Tryz.ntmps162;go_wp2_with fail
 refine b _ _ (by decide+kernel) ?_;rintro e a ⟨rfl,rfl⟩;go_wp2_with fail
 go_ret;exact ⟨rfl,rfl⟩
theorem Cw {D:Nat} (h:D < 2 ^ 32):bits .xor .u32 ((D:Int) / 2) (bits .and .u32 (D:Int) 1 * 3988292384 % 4294967296)=((mP D:Nat):Int):=by
 have a:bits .and .u32 (D:Int) 1=((D % 2:Nat):Int):=by
  rw [show (1:Int)=((1:Nat):Int) from rfl,(bits_nat .u32 32 (by decide) od D 1 h (by decide)).1,Nat.and_one_is_mod]
 have b:((D:Int) / 2)=((D / 2:Nat):Int):=by omega
 rw [a,b]
 have c:(((D % 2:Nat):Int) * 3988292384 % 4294967296)=(((if D % 2=1 then Im else 0):Nat):Int):=by
  unfold Im
  split <;> omega
 rw [c,lJ .u32 32 (by decide) od _ _ (by omega) (by split <;> decide)]
 rfl
theorem Jr {C:Nat} (h:C < 2 ^ 32):bits .xor .u32 4294967295 (C:Int)=((4294967295 - C:Nat):Int):=by
 rw [show (4294967295:Int)=((4294967295:Nat):Int) from rfl,lJ .u32 32 (by decide) od _ _ (by decide) h]
 congr 1
 have:=BitVec.toNat_not (x:=BitVec.ofNat 32 C);have e:(BitVec.ofNat 32 C).toNat=C:=by rw [BitVec.toNat_ofNat];exact Nat.mod_eq_of_lt h
 rw [e] at this
 have x: ~~~(BitVec.ofNat 32 C)=BitVec.allOnes 32 ^^^ BitVec.ofNat 32 C:=by
  rw [BitVec.allOnes_xor]
 rw [x,BitVec.toNat_xor,e] at this;simpa using this
theorem vA (s:ByteArray) (w:World) (r:s.size≤maxLen):Calls Tryz.prog 113 #[.string s] w fun e o=>e= .returned (.int .u32 (sV s.data.toList))∧w=o:=by
 unfold maxLen at r;go_enter Tryz.func113,Tryz.ntmps113;go_wp2_with fail
 refine (DC _).mono ?_;rintro e o ⟨rfl,rfl⟩;go_wp2_with fail
 go_loop [4,10] (fun c i=>∃k C:Nat,k≤s.size∧i= .int .i64 k∧c= .int .u32 C∧Hid (C < 2 ^ 32)∧Hid (C=Ao 4294967295 (s.data.toList.take k))) (fun _ i=>s.size - (intOf i).toNat)
 case atStart=>exact ⟨0,4294967295,Nat.zero_le _,rfl,rfl,Lib.hid (by decide),rfl⟩
 case round=>
  obtain ⟨k,C,v,rfl,rfl,d,f⟩:=hrel
  by_cases m:k < s.size
  ·go_wp2_with fail
   go_loop [4,19] (fun c i=>∃j D:Nat,j≤8∧i= .int .i64 j∧c= .int .u32 D∧Hid (D=jq j (C ^^^ s[k].toNat))) (fun _ i=>8 - (intOf i).toNat)
   case atStart=>
    refine ⟨0,C ^^^ s[k].toNat,by omega,rfl,?_,rfl⟩
    have t:=s[k].toNat_lt;rw [show ((s[k].toNat:Int) % 4294967296)=((s[k].toNat:Nat):Int) by omega,lJ .u32 32 (by decide) od _ _ d.out (by omega)]
   case round=>
    obtain ⟨j,D,u,rfl,rfl,g⟩:=hrel;have a:Hid (D < 2 ^ 32):=Lib.hid (by rw [g.out];exact tZ j (Nat.xor_lt_two_pow d.out (by have:=s[k].toNat_lt;omega)))
    by_cases q:j < 8
    ·go_wp2_with fail
     refine ⟨⟨j+1,mP D,by omega,by go_num,?_,Lib.hid (by rw [g.out,pG])⟩,by simp [intOf];omega⟩
     rw [Cw a.out]
    ·have h:j=8:=by omega
     subst h;go_wp2_with fail
     refine ⟨⟨k+1,D,by omega,by go_num,rfl,a,Lib.hid ?_⟩,by simp [intOf];omega⟩
     rw [g.out,f.out,Cy _ _ k (by simpa using m),Cx];rfl
  ·have l:k=s.size:=by omega
   subst l;have p:=d.out
   have n:sV s.data.toList=4294967295 - C:=by
    unfold sV;rw [f.out,List.take_of_length_le (by simp)]
   have b:=Jr p;clear d f;go_wp2_with fail
   go_ret;refine ⟨Er ?_,rfl⟩;rw [show IntKind.u32.max=4294967295 from rfl];exact b
theorem cJ.toBelow {a b:World} {B:Nat} (h:cJ [] a b) (d:B≤a.heap.size):Below B a b:=
 ⟨h.still.1,h.still.2.1,h.still.2.2,h.size,fun k f=>by
  have c:k < a.heap.size:=by omega
  have e:=Array.getElem?_eq_getElem c;rw [e]
  exact h.block k _ e (by simp)⟩
theorem wV (l:List Nat) (n:Nat):aZ (l++[n])=aZ l++[.int .i64 (n:Int)]:=by simp [aZ]
section
variable {P:Program} (w:World)
theorem gC (t J:TypeId) (h:Nat) (e:TypeId) (i:TypeInfo) (z:Value) (b d:Nat) (Q:P.underlying t=some (.slice e)) (M:P.info? e=some i) (W:i.zero=some z)
  (s:i.size=b) (G:i.bytes=d) (S:z.cells.size=b) (O:0 < b)
  (v:Value) (n:Nat) (K:List Value) (p:w.ownsRow h e b v n K)
  (B:Addr) (m c:Nat) (a:List Value) (I:a.length=m * b) (f:∀j u,a[j]? =some u→w.cell? (B.add j)=some u) (T:∀u∈a,u.oneCell'=true)
  (hm:0 < m) (F:n+m≤maxLen) (o:(n+m) * d≤140737488355328) (y:h≤w.heap.size):
  ∃g x A,(Builtin.append_ #[t,t] J #[v,.slice (some B) m c]).run P w= .ok (.slice (some ⟨g,0,none⟩) (n+m) x) A∧
   A.ownsRow h e b (.slice (some ⟨g,0,none⟩) (n+m) x) (n+m) (K++a)∧((v.ownBlock=some g∧w.grownBy A (some g))∨(g=w.heap.size∧w.grownBy A none)):=by
 obtain ⟨g,x,A,N,X,U,E,h5⟩:=run_append_lies (P:=P) w t J h e i z b d Q M W s G S O v n K p B m c a I f T hm F o y w.heap.size rfl;refine ⟨g,x,A,N,X,?_⟩
 rcases p.2 with ⟨rfl,_⟩ | ⟨D,l,C,rfl,Y,hg,a0,Z,L,R⟩
 ·rcases E with E | E
  ·cases E
  ·exact .inr ⟨E,U⟩
 ·have hb:(Value.slice (some ⟨D,0,none⟩) n l).ownBlock=some D:=rfl;subst s
  by_cases r:n+m≤l
  ·have H:n * i.size+a.length≤C.size:=by rw [I,L,←Nat.add_mul];exact Nat.mul_le_mul_right _ r
   have q:=run_append_room (P:=P) w t J e i Q M D n l C hg B m c a I f T r H;rw [N] at q;injection q with e1 e2;injection e1 with e1 _ _;injection e1 with e1;injection e1 with e1 _;subst e1;exact .inl ⟨rfl,U⟩
  ·subst G;have q:=run_append_grow (P:=P) w t J e i z Q M W ⟨D,0,none⟩ n l K p.1 (p.cells (g:=D) rfl) B m c a I f (by omega) (by simp only [maxLen] at F;omega) (growslice_fits (by omega) o);rw [N] at q;injection q with e1 e2;injection e1 with e1 _ _;injection e1 with e1;injection e1 with e1 _;subst e1;rw [e2];exact .inr ⟨rfl,⟨rfl,rfl,rfl,by simp,fun k V _=>(by first | exact heap_alloc_old w.drew _ k V | exact heap_alloc_old w.drew _ V)⟩⟩
end
def tD (b:UInt8):Bool:=decide (b.toNat=0) || decide (b.toNat=10) || decide (b.toNat=13) || decide (126 < b.toNat)
def tE (x:Nat):Bool:=decide (x=0) || decide (x=10) || decide (x=13) || decide (126 < x)
theorem yT (n a b c d:Nat) (h:128≤a):126 < (Lib.decodeN n a b c d).1:=by
 unfold Lib.decodeN;rw [if_neg (by omega)]
 split
 ·split <;> simp only [] <;> omega
 ·split
  ·split <;> simp only [] <;> omega
  ·split
   ·split <;> simp only [] <;> omega
   ·simp
theorem CA (s:ByteArray) (i:Nat) (h:(s.get! i).toNat < 128):Utf8.decode s i=((s.get! i).toNat,1):=by
 rw [Lib.decode_at];unfold Lib.decodeN;rw [if_pos h]
theorem Ax (s:ByteArray) (i:Nat) (h:128≤(s.get! i).toNat):tE (Utf8.decode s i).1=true:=by
 rw [Lib.decode_at];have:=yT (s.size - i) (s.get! i).toNat (s.get! (i+1)).toNat (s.get! (i+2)).toNat (s.get! (i+3)).toNat h;unfold tE;rw [decide_eq_true this,Bool.or_true]
theorem AF (l:List UInt8) (j:Nat) (h:j < l.length):(bs l).get! j=l[j]:=by
 show (bs l).data[j]! =_;have:j < (bs l).data.size:=by have:=aG l;exact (by show j < (bs l).size;omega)
 rw [getElem!_pos (bs l).data j this];simp [bs]
theorem Ej (l:List UInt8):∀(f a:Nat),a≤l.length→l.length≤a+f→(0≤Lib.idxFuncFrom tE true (bs l) f a ↔ (l.drop a).any tD=true)
 | 0,a,h1,h2=>by
  have:a=l.length:=by omega
  subst this;simp [Lib.idxFuncFrom]
 | f+1,a,h1,h2=>by
  have i:=aG l;unfold Lib.idxFuncFrom
  by_cases h:a < l.length
  ·rw [if_pos (by omega)];have e:l.drop a=l[a]::l.drop (a+1):=List.drop_eq_getElem_cons h;have g:=AF l a h
   by_cases b:((bs l).get! a).toNat < 128
   ·rw [CA _ _ b,g];have c:tE l[a].toNat=tD l[a]:=rfl;simp only [];rw [e,List.any_cons,c]
    cases d:tD l[a] with
    | true=>simp
    | false=>
     rw [if_neg (by simp),Bool.false_or];exact Ej l f (a+1) (by omega) (by omega)
   ·have:=Ax (bs l) a (by omega);rw [if_pos this,e,List.any_cons]
    have d:tD l[a]=true:=by
     rw [g] at b;unfold tD;rw [decide_eq_true (show 126 < l[a].toNat by omega),Bool.or_true]
    rw [d,Bool.true_or];exact ⟨fun _=>rfl,fun _=>by omega⟩
  ·have:a=l.length:=by omega
   subst this;rw [if_neg (by omega)];simp
theorem Fa (x:Nat) (w:World) (j:x≤1114111):Calls Tryz.prog 138 #[.int .i32 (x:Int)] w fun e f=>e= .returned (.bool (tE x))∧Below w.heap.size w f:=by
 unfold tE
 by_cases a:x=0
 ·subst a;go_enter Tryz.func138,Tryz.ntmps138;go_wp2_with fail
  go_ret;exact ⟨rfl,Below.refl _ _⟩
 ·by_cases b:x=10
  ·subst b;go_enter Tryz.func138,Tryz.ntmps138;go_wp2_with fail
   go_ret;exact ⟨rfl,Below.refl _ _⟩
  ·by_cases c:x=13
   ·subst c;go_enter Tryz.func138,Tryz.ntmps138;go_wp2_with fail
    go_ret;exact ⟨rfl,Below.refl _ _⟩
   ·rw [decide_eq_false a,decide_eq_false b,decide_eq_false c];have g:((x:Int) == 0)=false:=by rw [beq_eq_false_iff_ne];omega
    have h:((x:Int) == 10)=false:=by rw [beq_eq_false_iff_ne];omega
    have i:((x:Int) == 13)=false:=by rw [beq_eq_false_iff_ne];omega
    have d:decide (126 < x)=decide ((126:Int) < (x:Int)):=by
     rw [Bool.eq_iff_iff,decide_eq_true_eq,decide_eq_true_eq];omega
    rw [d];clear a b c d;go_enter Tryz.func138,Tryz.ntmps138;go_wp2_with fail
    go_ret;exact ⟨rfl,Below.refl _ _⟩
def sj (n:Nat):UInt8:=UInt8.ofNat n
def Fk (k:Nat):Nat:=if k < 26 then k+65 else if k < 52 then k+71 else if k < 62 then k - 4 else if k=62 then 43 else 47
def sE (k:Nat):UInt8:=sj (Fk k)
def iv (c:UInt8):Option Nat:=
 if 65≤c.toNat∧c.toNat≤90 then some (c.toNat - 65) else if 97≤c.toNat∧c.toNat≤122 then some (c.toNat - 97+26) else if 48≤c.toNat∧c.toNat≤57 then some (c.toNat - 48+52) else if c.toNat=43 then some 62 else if c.toNat=47 then some 63 else none
theorem fk (n:Nat):(sj n).toNat=n % 256:=by rw [sj,UInt8.toNat_ofNat']
theorem Ch (n:Nat) (c:UInt8) (h:n % 256=c.toNat):sj n=c:=UInt8.toNat_inj.1 (by rw [fk,h])
theorem Jk (k:Nat):Fk k < 256:=by
 unfold Fk
 by_cases a:k < 26
 ·rw [if_pos a];omega
 rw [if_neg a]
 by_cases b:k < 52
 ·rw [if_pos b];omega
 rw [if_neg b]
 by_cases c:k < 62
 ·rw [if_pos c];omega
 rw [if_neg c]
 by_cases d:k=62
 ·rw [if_pos d];omega
 ·rw [if_neg d];omega
theorem CZ (k:Nat) (_:k < 64):(sE k).toNat=Fk k:=by
 have:=Jk k;rw [sE,fk];omega
theorem dy {c:UInt8} {k:Nat} (h:iv c=some k):k < 64∧sE k=c:=by
 have a:k < 64∧Fk k=c.toNat:=by
  unfold iv at h;unfold Fk
  split at h
  ·have:k=c.toNat - 65:=(Option.some.inj h).symm;rw [if_pos (by omega)];omega
  split at h
  ·have:k=c.toNat - 97+26:=(Option.some.inj h).symm;rw [if_neg (by omega),if_pos (by omega)];omega
  split at h
  ·have:k=c.toNat - 48+52:=(Option.some.inj h).symm;rw [if_neg (by omega),if_neg (by omega),if_pos (by omega)];omega
  split at h
  ·have:k=62:=(Option.some.inj h).symm;rw [if_neg (by omega),if_neg (by omega),if_neg (by omega),if_pos (by omega)];omega
  split at h
  ·have:k=63:=(Option.some.inj h).symm;rw [if_neg (by omega),if_neg (by omega),if_neg (by omega),if_neg (by omega)];omega
  ·cases h
 refine ⟨a.1,UInt8.toNat_inj.1 ?_⟩;rw [CZ k a.1,a.2]
def g1 (a b:UInt8):Option (List UInt8):=match iv a,iv b with
 | some p,some q=>if q % 16=0 then some [sj (p * 4+q / 16)] else none
 | _,_=>none
def g2 (a b c:UInt8):Option (List UInt8):=match iv a,iv b,iv c with
 | some p,some q,some r=>if r % 4=0 then some [sj (p * 4+q / 16),sj (q % 16 * 16+r / 4)] else none
 | _,_,_=>none
def g3 (a b c d:UInt8):Option (List UInt8):=match iv a,iv b,iv c,iv d with
 | some p,some q,some r,some t=>some [sj (p * 4+q / 16),sj (q % 16 * 16+r / 4),sj (r % 4 * 64+t)]
 | _,_,_,_=>none
def Gc (a b c d:UInt8):Option (List UInt8):=if d=61 then (if c=61 then g1 a b else g2 a b c) else g3 a b c d
def kv:List UInt8→Option (List UInt8)
 | []=>some []
 | a::b::c::d::r=>match Gc a b c d with
  | none=>none
  | some g=>if g.length < 3∧r≠[] then none else match kv r with
   | none=>none
   | some y=>some (g++y)
 | _=>none
def B8:List UInt8→List UInt8
 | []=>[]
 | [x]=>[sE (x.toNat / 4),sE (x.toNat % 4 * 16),61,61]
 | [x,y]=>[sE (x.toNat / 4),sE (x.toNat % 4 * 16+y.toNat / 16),sE (y.toNat % 16 * 4),61]
 | x::y::z::r=>sE (x.toNat / 4)::sE (x.toNat % 4 * 16+y.toNat / 16)::sE (y.toNat % 16 * 4+z.toNat / 64)::sE (z.toNat % 64)::B8 r
theorem Kj {a b:UInt8} {g:List UInt8} (h:g1 a b=some g):B8 g=[a,b,61,61]∧g.length=1:=by
 unfold g1 at h
 split at h
 ·rename_i p q e i
  split at h
  ·obtain ⟨f,c⟩:=dy e;obtain ⟨j,d⟩:=dy i;have:=(Option.some.inj h).symm;subst this;refine ⟨?_,rfl⟩;simp only [B8];rw [fk,←c,←d];rw [show (p * 4+q / 16) % 256 / 4=p by omega,show (p * 4+q / 16) % 256 % 4 * 16=q by omega]
  ·cases h
 ·cases h
theorem Kk {a b c:UInt8} {g:List UInt8} (h:g2 a b c=some g):B8 g=[a,b,c,61]∧g.length=2:=by
 unfold g2 at h
 split at h
 ·rename_i p q r i k m
  split at h
  ·obtain ⟨j,d⟩:=dy i;obtain ⟨l,e⟩:=dy k;obtain ⟨n,f⟩:=dy m;have:=(Option.some.inj h).symm;subst this;refine ⟨?_,rfl⟩;simp only [B8];rw [fk,fk,←d,←e,←f];rw [show (p * 4+q / 16) % 256 / 4=p by omega,show (p * 4+q / 16) % 256 % 4 * 16+(q % 16 * 16+r / 4) % 256 / 16=q by omega,show (q % 16 * 16+r / 4) % 256 % 16 * 4=r by omega]
  ·cases h
 ·cases h
theorem Kl {a b c d:UInt8} {g:List UInt8} (h:g3 a b c d=some g):(∀y,B8 (g++y)=a::b::c::d::B8 y)∧g.length=3:=by
 unfold g3 at h
 split at h
 ·rename_i p q r t k m o u
  obtain ⟨l,e⟩:=dy k;obtain ⟨n,f⟩:=dy m;obtain ⟨s,i⟩:=dy o;obtain ⟨v,j⟩:=dy u;have:=(Option.some.inj h).symm;subst this;refine ⟨fun y=>?_,rfl⟩;simp only [List.cons_append,List.nil_append,B8];rw [fk,fk,fk,←e,←f,←i,←j];rw [show (p * 4+q / 16) % 256 / 4=p by omega,show (p * 4+q / 16) % 256 % 4 * 16+(q % 16 * 16+r / 4) % 256 / 16=q by omega,show (q % 16 * 16+r / 4) % 256 % 16 * 4+(r % 4 * 64+t) % 256 / 64=r by omega,show (r % 4 * 64+t) % 256 % 64=t by omega]
 ·cases h
end Go.Proofs.YtofpegbpgkkgkaaGreatDoor
