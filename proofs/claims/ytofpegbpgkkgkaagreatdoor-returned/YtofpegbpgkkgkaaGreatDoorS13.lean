import Derived.Test.YtofpegbpgkkgkaaGreatDoorS08
import Derived.Test.YtofpegbpgkkgkaaGreatDoorS12
import Derived.Maps.RangeRun
import Derived.Lib.LaidTab
import Derived.WalkSmall
import Derived.Lib.SlBytesConst
import Derived.Lib.DecodeN
import Derived.Conc.SmallLaws
import Derived.Orders
import Derived.Sort.OwnSortedInts
import Derived.Lib.Join
namespace Go.Proofs.YtofpegbpgkkgkaaGreatDoor
set_option maxHeartbeats 8000000
set_option maxRecDepth 1000000
def sj (n:Nat):UInt8:=UInt8.ofNat n
def Fk (k:Nat):Nat:=if k < 26 then k+65 else if k < 52 then k+71 else if k < 62 then k - 4 else if k=62 then 43 else 47
def sE (k:Nat):UInt8:=sj (Fk k)
def iv (c:UInt8):Option Nat:=
 if 65≤c.toNat∧c.toNat≤90 then some (c.toNat - 65) else if 97≤c.toNat∧c.toNat≤122 then some (c.toNat - 97+26) else if 48≤c.toNat∧c.toNat≤57 then some (c.toNat - 48+52) else if c.toNat=43 then some 62 else if c.toNat=47 then some 63 else none
theorem fk (n:Nat):(sj n).toNat=n % 256:=by rw [sj,UInt8.toNat_ofNat']
theorem Ch (n:Nat) (c:UInt8) (h:n % 256=c.toNat):sj n=c:=UInt8.toNat_inj.1 (by rw [fk,h])
theorem Jk (k:Nat):Fk k < 256:=by
 unfold Fk
 by_cases a:k < 26
 ·rw [if_pos a];omega
 rw [if_neg a]
 by_cases b:k < 52
 ·rw [if_pos b];omega
 rw [if_neg b]
 by_cases c:k < 62
 ·rw [if_pos c];omega
 rw [if_neg c]
 by_cases d:k=62
 ·rw [if_pos d];omega
 ·rw [if_neg d];omega
theorem CZ (k:Nat) (_:k < 64):(sE k).toNat=Fk k:=by
 have:=Jk k;rw [sE,fk];omega
theorem dy {c:UInt8} {k:Nat} (h:iv c=some k):k < 64∧sE k=c:=by
 have a:k < 64∧Fk k=c.toNat:=by
  unfold iv at h;unfold Fk
  split at h
  ·have:k=c.toNat - 65:=(Option.some.inj h).symm;rw [if_pos (by omega)];omega
  split at h
  ·have:k=c.toNat - 97+26:=(Option.some.inj h).symm;rw [if_neg (by omega),if_pos (by omega)];omega
  split at h
  ·have:k=c.toNat - 48+52:=(Option.some.inj h).symm;rw [if_neg (by omega),if_neg (by omega),if_pos (by omega)];omega
  split at h
  ·have:k=62:=(Option.some.inj h).symm;rw [if_neg (by omega),if_neg (by omega),if_neg (by omega),if_pos (by omega)];omega
  split at h
  ·have:k=63:=(Option.some.inj h).symm;rw [if_neg (by omega),if_neg (by omega),if_neg (by omega),if_neg (by omega)];omega
  ·cases h
 refine ⟨a.1,UInt8.toNat_inj.1 ?_⟩;rw [CZ k a.1,a.2]
def g1 (a b:UInt8):Option (List UInt8):=match iv a,iv b with
 | some p,some q=>if q % 16=0 then some [sj (p * 4+q / 16)] else none
 | _,_=>none
def g2 (a b c:UInt8):Option (List UInt8):=match iv a,iv b,iv c with
 | some p,some q,some r=>if r % 4=0 then some [sj (p * 4+q / 16),sj (q % 16 * 16+r / 4)] else none
 | _,_,_=>none
def g3 (a b c d:UInt8):Option (List UInt8):=match iv a,iv b,iv c,iv d with
 | some p,some q,some r,some t=>some [sj (p * 4+q / 16),sj (q % 16 * 16+r / 4),sj (r % 4 * 64+t)]
 | _,_,_,_=>none
def Gc (a b c d:UInt8):Option (List UInt8):=if d=61 then (if c=61 then g1 a b else g2 a b c) else g3 a b c d
def kv:List UInt8→Option (List UInt8)
 | []=>some []
 | a::b::c::d::r=>match Gc a b c d with
  | none=>none
  | some g=>if g.length < 3∧r≠[] then none else match kv r with
   | none=>none
   | some y=>some (g++y)
 | _=>none
def B8:List UInt8→List UInt8
 | []=>[]
 | [x]=>[sE (x.toNat / 4),sE (x.toNat % 4 * 16),61,61]
 | [x,y]=>[sE (x.toNat / 4),sE (x.toNat % 4 * 16+y.toNat / 16),sE (y.toNat % 16 * 4),61]
 | x::y::z::r=>sE (x.toNat / 4)::sE (x.toNat % 4 * 16+y.toNat / 16)::sE (y.toNat % 16 * 4+z.toNat / 64)::sE (z.toNat % 64)::B8 r
theorem Kj {a b:UInt8} {g:List UInt8} (h:g1 a b=some g):B8 g=[a,b,61,61]∧g.length=1:=by
 unfold g1 at h
 split at h
 ·rename_i p q e i
  split at h
  ·obtain ⟨f,c⟩:=dy e;obtain ⟨j,d⟩:=dy i;have:=(Option.some.inj h).symm;subst this;refine ⟨?_,rfl⟩;simp only [B8];rw [fk,←c,←d];rw [show (p * 4+q / 16) % 256 / 4=p by omega,show (p * 4+q / 16) % 256 % 4 * 16=q by omega]
  ·cases h
 ·cases h
theorem Kk {a b c:UInt8} {g:List UInt8} (h:g2 a b c=some g):B8 g=[a,b,c,61]∧g.length=2:=by
 unfold g2 at h
 split at h
 ·rename_i p q r i k m
  split at h
  ·obtain ⟨j,d⟩:=dy i;obtain ⟨l,e⟩:=dy k;obtain ⟨n,f⟩:=dy m;have:=(Option.some.inj h).symm;subst this;refine ⟨?_,rfl⟩;simp only [B8];rw [fk,fk,←d,←e,←f];rw [show (p * 4+q / 16) % 256 / 4=p by omega,show (p * 4+q / 16) % 256 % 4 * 16+(q % 16 * 16+r / 4) % 256 / 16=q by omega,show (q % 16 * 16+r / 4) % 256 % 16 * 4=r by omega]
  ·cases h
 ·cases h
theorem Kl {a b c d:UInt8} {g:List UInt8} (h:g3 a b c d=some g):(∀y,B8 (g++y)=a::b::c::d::B8 y)∧g.length=3:=by
 unfold g3 at h
 split at h
 ·rename_i p q r t k m o u
  obtain ⟨l,e⟩:=dy k;obtain ⟨n,f⟩:=dy m;obtain ⟨s,i⟩:=dy o;obtain ⟨v,j⟩:=dy u;have:=(Option.some.inj h).symm;subst this;refine ⟨fun y=>?_,rfl⟩;simp only [List.cons_append,List.nil_append,B8];rw [fk,fk,fk,←e,←f,←i,←j];rw [show (p * 4+q / 16) % 256 / 4=p by omega,show (p * 4+q / 16) % 256 % 4 * 16+(q % 16 * 16+r / 4) % 256 / 16=q by omega,show (q % 16 * 16+r / 4) % 256 % 16 * 4+(r % 4 * 64+t) % 256 / 64=r by omega,show (r % 4 * 64+t) % 256 % 64=t by omega]
 ·cases h
open Go.RowKit
def jn (b:UInt8) (w:World) (e:Ending) (w':World):Prop:=e= .returned (.tuple #[.int .u32 (((iv b).getD 0:Nat):Int),.bool (iv b).isSome])∧w'=w
theorem jn.some {b:UInt8} {w:World} {e:Ending} {w':World} (k:Nat) (n:Int) (c:(k:Int)=n) (h:iv b=Option.some k) (a:e= .returned (.tuple #[.int .u32 n,.bool true])) (d:w'=w):jn b w e w':=⟨by rw [a,h,←c];rfl,d⟩
theorem jn.none {b:UInt8} {w:World} {e:Ending} {w':World} (h:iv b=Option.none) (a:e= .returned (.tuple #[.int .u32 0,.bool false])) (c:w'=w):jn b w e w':=⟨by rw [a,h];rfl,c⟩
theorem sG (b:UInt8) (w:World):Calls Tryz.prog 294 #[.int .u8 (b.toNat:Int)] w (jn b w):=by
 have q:(b.toNat:Int) < 256:=by have:=b.toNat_lt;omega
 have t:0≤(b.toNat:Int):=by omega
 by_cases e:65≤(b.toNat:Int)∧(b.toNat:Int)≤90
 ·have a:Hid (iv b=some (b.toNat - 65)):=by
   show _=_;unfold iv;rw [if_pos (by omega)]
  obtain ⟨g,m⟩:=e;go_enter Tryz.func294,Tryz.ntmps294;go_wp2
  go_ret2
  exact jn.some _ _ (by omega) a.out rfl rfl
 by_cases f:97≤(b.toNat:Int)∧(b.toNat:Int)≤122
 ·have a:Hid (iv b=some (b.toNat - 97+26)):=by
   show _=_;unfold iv;rw [if_neg (by omega),if_pos (by omega)]
  obtain ⟨g,m⟩:=f;clear e;have p:90 < (b.toNat:Int):=by omega
  go_enter Tryz.func294,Tryz.ntmps294;go_wp2
  go_ret2
  exact jn.some _ _ (by omega) a.out rfl rfl
 by_cases h:48≤(b.toNat:Int)∧(b.toNat:Int)≤57
 ·have a:Hid (iv b=some (b.toNat - 48+52)):=by
   show _=_;unfold iv;rw [if_neg (by omega),if_neg (by omega),if_pos (by omega)]
  obtain ⟨g,m⟩:=h;clear e f;have p:(b.toNat:Int) < 65:=by omega
  go_enter Tryz.func294,Tryz.ntmps294;go_wp2
  go_ret2
  exact jn.some _ _ (by omega) a.out rfl rfl
 have i:(decide (65≤(b.toNat:Int)) && decide ((b.toNat:Int)≤90))=false:=by simp;omega
 have j:(decide (97≤(b.toNat:Int)) && decide ((b.toNat:Int)≤122))=false:=by simp;omega
 have k:(decide (48≤(b.toNat:Int)) && decide ((b.toNat:Int)≤57))=false:=by simp;omega
 cases n:((b.toNat:Int) == 43) with
 | true=>
  have c:(b.toNat:Int)=43:=by simpa using n
  have a:Hid (iv b=some 62):=by
   show _=_;unfold iv;rw [if_neg (by omega),if_neg (by omega),if_neg (by omega),if_pos (by omega)]
  clear e f h i j k;have g:(b.toNat:Int) < 48:=by omega
  clear c;go_enter Tryz.func294,Tryz.ntmps294;go_wp2
  all_goals (go_ret2;exact jn.some _ _ rfl a.out rfl rfl)
 | false=>
  cases o:((b.toNat:Int) == 47) with
  | true=>
   have d:(b.toNat:Int)=47:=by simpa using o
   have a:Hid (iv b=some 63):=by
    show _=_;unfold iv;rw [if_neg (by omega),if_neg (by omega),if_neg (by omega),if_neg (by omega),if_pos (by omega)]
   clear e f h i j k;have g:(b.toNat:Int) < 48:=by omega
   clear d;go_enter Tryz.func294,Tryz.ntmps294;go_wp2
   all_goals (go_ret2;exact jn.some _ _ rfl a.out rfl rfl)
  | false=>
   have c:¬(b.toNat:Int)=43:=by simpa using n
   have d:¬(b.toNat:Int)=47:=by simpa using o
   have a:Hid (iv b=none):=by
    show _=_;unfold iv;rw [if_neg (by omega),if_neg (by omega),if_neg (by omega),if_neg (by omega),if_neg (by omega)]
   have r:(b.toNat:Int) < 48∨(57 < (b.toNat:Int)∧(b.toNat:Int) < 65)∨(90 < (b.toNat:Int)∧(b.toNat:Int) < 97)∨122 < (b.toNat:Int):=by omega
   clear e f h c d i j k
   rcases r with l | ⟨l,s⟩ | ⟨l,s⟩ | l
   all_goals
    go_enter Tryz.func294,Tryz.ntmps294;go_wp2
    go_ret2
    exact jn.none a.out rfl rfl
def stood (l:List UInt8):Nat:=if Lib.hasSuffix l [61,61] then 1 else if Lib.hasSuffix l [61] then 2 else 3
theorem gw (s:ByteArray) (w:World) (f:s.size≤maxLen):
  Calls Tryz.prog 275 #[.string s] w fun e b=>e= .returned (.int .i64 (stood s.data.toList:Nat))∧b=w:=by
 have c:Hid (∀n:Nat,stood s.data.toList=n→∀i:Int,(n:Int)=i→Ending.returned (.int .i64 i)= .returned (.int .i64 (stood s.data.toList:Nat))):=fun n h i j=>by rw [h,j]
 cases d:Lib.hasSuffix s.data.toList [61,61] with
 | true=>
  have a:Hid (stood s.data.toList=1):=by show _=_;unfold stood;rw [d];rfl
  go_enter Tryz.func275,Tryz.ntmps275;go_wp2_with (go_at_call 214;refine (Tryz.strings_HasSuffix _ _ _ f).mono ?_;rintro e b ⟨rfl,rfl⟩)
  go_ret;exact ⟨c.out _ a.out _ rfl,rfl⟩
 | false=>
  cases g:Lib.hasSuffix s.data.toList [61] with
  | true=>
   have a:Hid (stood s.data.toList=2):=by show _=_;unfold stood;rw [d,g];rfl
   go_enter Tryz.func275,Tryz.ntmps275;go_wp2_with (go_at_call 214;refine (Tryz.strings_HasSuffix _ _ _ f).mono ?_;rintro e b ⟨rfl,rfl⟩)
   go_ret;exact ⟨c.out _ a.out _ rfl,rfl⟩
  | false=>
   have a:Hid (stood s.data.toList=3):=by show _=_;unfold stood;rw [d,g];rfl
   go_enter Tryz.func275,Tryz.ntmps275;go_wp2_with (go_at_call 214;refine (Tryz.strings_HasSuffix _ _ _ f).mono ?_;rintro e b ⟨rfl,rfl⟩)
   go_ret;exact ⟨c.out _ a.out _ rfl,rfl⟩
def jY (l:List UInt8):Nat→Nat
 | 0=>0
 | k+1=>jY l k+(iv (l.getD k 0)).getD 0 * 2 ^ (18 - 6 * k)
theorem zG (c:UInt8):(iv c).getD 0 < 64:=by
 cases h:iv c with
 | none=>decide
 | some k=>exact (dy h).1
theorem Cb (l:List UInt8) (k:Nat) (h:k≤4):∃m,jY l k=m * 2 ^ (24 - 6 * k)∧jY l k < 16777216:=by
 have b:=zG (l.getD 0 0);have c:=zG (l.getD 1 0);have d:=zG (l.getD 2 0);have e:=zG (l.getD 3 0);have a:k=0∨k=1∨k=2∨k=3∨k=4:=by omega
 rcases a with rfl | rfl | rfl | rfl | rfl
 ·exact ⟨0,by simp [jY],by simp [jY]⟩
 ·refine ⟨(iv (l.getD 0 0)).getD 0,?_,?_⟩ <;> simp only [jY] <;> omega
 ·refine ⟨(iv (l.getD 0 0)).getD 0 * 64+(iv (l.getD 1 0)).getD 0,?_,?_⟩ <;> simp only [jY] <;> omega
 ·refine ⟨((iv (l.getD 0 0)).getD 0 * 64+(iv (l.getD 1 0)).getD 0) * 64+(iv (l.getD 2 0)).getD 0,?_,?_⟩ <;> simp only [jY] <;> omega
 ·refine ⟨jY l 4,by omega,?_⟩
  simp only [jY];omega
theorem J3 (m q k:Nat) (b:q < 64) (f:k≤3) (d:m * 2 ^ (24 - 6 * k) < 16777216):
  bits BinOp.or IntKind.u32 ((m * 2 ^ (24 - 6 * k):Nat):Int) ((q:Int) * 2 ^ (18 - 6 * k) % 4294967296)=((m * 2 ^ (24 - 6 * k)+q * 2 ^ (18 - 6 * k):Nat):Int):=by
 have a:q * 2 ^ (18 - 6 * k) < 2 ^ (24 - 6 * k):=by
  rw [show 24 - 6 * k=6+(18 - 6 * k) by omega,Nat.pow_add]
  exact Nat.mul_lt_mul_of_pos_right b (Nat.pow_pos (by decide))
 have c:q * 2 ^ (18 - 6 * k) < 16777216:=by
  refine Nat.lt_of_lt_of_le a ?_;have:(16777216:Nat)=2 ^ 24:=rfl;rw [this];exact Nat.pow_le_pow_right (by decide) (by omega)
 have e:((q:Int) * 2 ^ (18 - 6 * k) % 4294967296)=((q * 2 ^ (18 - 6 * k):Nat):Int):=by
  rw [Int.natCast_mul,Int.natCast_pow];refine Int.emod_eq_of_lt ?_ ?_
  ·have:(0:Int)≤((q * 2 ^ (18 - 6 * k):Nat):Int):=Int.natCast_nonneg _;rw [Int.natCast_mul,Int.natCast_pow] at this;exact this
  ·have:((q * 2 ^ (18 - 6 * k):Nat):Int) < 4294967296:=by omega
   rw [Int.natCast_mul,Int.natCast_pow] at this;exact this
 rw [e,u32_or_nat _ _ (by omega) (by omega)]
 congr 1
 rw [←Nat.shiftLeft_eq m,Nat.shiftLeft_add_eq_or_of_lt a]
def kq (l:List UInt8) (w:World) (e:Ending) (w':World):Prop:=
 (if l.all (fun c=>(iv c).isSome) then e= .returned (.tuple #[.int .u32 (jY l l.length:Nat),.bool true]) else e= .returned (.tuple #[.int .u32 0,.bool false]))∧w'=w
theorem kq.yes {l:List UInt8} {w:World} {e:Ending} {a:World} (h:l.all (fun c=>(iv c).isSome)=true) (b:e= .returned (.tuple #[.int .u32 (jY l l.length:Nat),.bool true])) (d:a=w):kq l w e a:=⟨by rw [h];exact b,d⟩
theorem kq.no {l:List UInt8} {w:World} {e:Ending} {a:World} (h:l.all (fun c=>(iv c).isSome)=false) (b:e= .returned (.tuple #[.int .u32 0,.bool false])) (d:a=w):kq l w e a:=⟨by rw [h];exact b,d⟩
theorem mC (s:ByteArray) (w:World) (B:s.size≤4):
  Calls Tryz.prog 276 #[.string s] w (kq s.data.toList w):=by
 go_enter Tryz.func276,Tryz.ntmps276;go_wp2
 go_loop [4,10] (fun v i=>∃k V:Nat,k≤s.size∧i= .int .i64 k∧v= .int .u32 V∧Hid (jY s.data.toList k=V)∧Hid (∀j:Nat,j < k→(iv (s.data.toList.getD j 0)).isSome=true)) (fun _ i=>s.size - (intOf i).toNat)
 case atStart=>exact ⟨0,0,Nat.zero_le _,rfl,rfl,rfl,fun j r=>by omega⟩
 case round=>
  obtain ⟨k,V,z,rfl,rfl,f,l⟩:=hrel
  by_cases d:k < s.size
  ·have g:Hid (s.data.toList.getD k 0=s[k]):=pN s k d;obtain ⟨o,t⟩:∃o,iv s[k]=o:=⟨_,rfl⟩;have a:=Lib.hid t;clear t
   have u:(V:Int) < 16777216:=by
    obtain ⟨_,_,h⟩:=Cb s.data.toList k (by omega);rw [f.out] at h;omega
   have y:(k:Int)≤3:=by omega
   go_wp2_with fail
   refine (sG _ _).mono ?_;rintro e C ⟨rfl,rfl⟩;rw [a.out]
   cases o with
   | none=>
    simp only [Option.getD_none,Option.isSome_none];go_wp2_with fail
    go_ret2
    exact kq.no (qH (p:=fun c=>(iv c).isSome) (k:=k) (by rw [aJ];exact d) (by rw [g.out,a.out];rfl)) rfl rfl
   | some q=>
    have A:(q:Int) < 64:=by have:=(dy a.out).1;omega
    simp only [Option.getD_some,Option.isSome_some];go_wp2_with fail
    refine ⟨⟨k+1,jY s.data.toList (k+1),by omega,by go_num,?_,rfl,qj (p:=fun c=>(iv c).isSome) l.out g.out (by rw [a.out];rfl)⟩,by simp [intOf];omega⟩
    obtain ⟨m,n,x⟩:=Cb s.data.toList k (by omega);rw [jY,g.out,a.out,Option.getD_some,←f.out,n,J3 m q k (by omega) (by omega) (by rw [←n];exact x)]
  ·have b:Hid (k=s.data.toList.length):=by
    show _=_;rw [aJ];omega
   go_wp2
   go_ret2
   exact kq.yes (yx (p:=fun c=>(iv c).isSome) (fun j r=>l.out j (by rw [b.out];exact r))) (by rw [←b.out,f.out];rfl) rfl
def fi (o:Option (List UInt8)) (w:World) (e:Ending) (w':World):Prop:=
 (match o with | some g=>e= .returned (.tuple #[.string ⟨g.toArray⟩,.bool true]) | none=>e= .returned (.tuple #[.string ⟨#[]⟩,.bool false]))∧Below w.heap.size w w'
theorem fi.yes {o:Option (List UInt8)} {w:World} {e:Ending} {a:World} (g:List UInt8) (h:o=some g) (b:e= .returned (.tuple #[.string ⟨g.toArray⟩,.bool true])) (c:Below w.heap.size w a):fi o w e a:=by subst h;exact ⟨b,c⟩
theorem fi.no {o:Option (List UInt8)} {w:World} {e:Ending} {a:World} (h:o=none) (b:e= .returned (.tuple #[.string ⟨#[]⟩,.bool false])) (c:Below w.heap.size w a):fi o w e a:=by subst h;exact ⟨b,c⟩
theorem pf (w:World) (W n a:Nat) (e:W < 16777216) (f:n≤3):
  (convert 114 9 (.slice (some ⟨w.heap.size,0,none⟩) n a)).run Tryz.prog (w.alloc (.cells #[.int .u8 ((W:Int) / 65536),.int .u8 ((W:Int) / 256 % 256),.int .u8 ((W:Int) % 256)] 300))= .ok (.string ⟨([sj (W / 65536),sj (W / 256),sj W].take n).toArray⟩) (w.alloc (.cells #[.int .u8 ((W:Int) / 65536),.int .u8 ((W:Int) / 256 % 256),.int .u8 ((W:Int) % 256)] 300)):=by
 refine oP _ w.heap.size a n _ (by simp;omega) (fun j d=>?_);have c:∀i:Nat,(w.alloc (.cells #[.int .u8 ((W:Int) / 65536),.int .u8 ((W:Int) / 256 % 256),.int .u8 ((W:Int) % 256)] 300)).cell? ⟨w.heap.size,i,none⟩=#[Value.int .u8 ((W:Int) / 65536),.int .u8 ((W:Int) / 256 % 256),.int .u8 ((W:Int) % 256)][i]? :=fun i=>World.cell?_alloc_mark w _ 300 (0,0) i;rw [c j,List.getD_eq_getElem?_getD,List.getElem?_take_of_lt d];have b:j=0∨j=1∨j=2:=by omega
 rcases b with rfl | rfl | rfl
 ·show some (Value.int .u8 ((W:Int) / 65536))=some (.int .u8 ((sj (W / 65536)).toNat:Int));rw [fk,show (((W / 65536) % 256:Nat):Int)=(W:Int) / 65536 by omega]
 ·show some (Value.int .u8 ((W:Int) / 256 % 256))=some (.int .u8 ((sj (W / 256)).toNat:Int));rw [fk,show (((W / 256) % 256:Nat):Int)=(W:Int) / 256 % 256 by omega]
 ·show some (Value.int .u8 ((W:Int) % 256))=some (.int .u8 ((sj W).toNat:Int));rw [fk,show ((W % 256:Nat):Int)=(W:Int) % 256 by omega]
theorem wj {s:ByteArray} {w:World} (d:s.size≤4) (W:Nat) (h:s.data.toList.all (fun c=>(iv c).isSome)=true) (b:jY s.data.toList s.data.toList.length=W):
  Calls Tryz.prog 276 #[.string s] w fun e f=>e= .returned (.tuple #[.int .u32 W,.bool true])∧f=w:=by
 refine (mC s w d).mono ?_;rintro e g ⟨a,rfl⟩;rw [h] at a;exact ⟨by rw [←b];exact a,rfl⟩
theorem zI {s:ByteArray} {w:World} (b:s.size≤4) (h:s.data.toList.all (fun c=>(iv c).isSome)=false):
  Calls Tryz.prog 276 #[.string s] w fun e d=>e= .returned (.tuple #[.int .u32 0,.bool false])∧d=w:=by
 refine (mC s w b).mono ?_;rintro e f ⟨a,rfl⟩;rw [h] at a;exact ⟨a,rfl⟩
theorem uf (s:ByteArray) (w:World) (d:s.size=4) (a:stood s.data.toList=1) (b:(s.extract 0 2).data.toList.all (fun c=>(iv c).isSome)=false):
  Calls Tryz.prog 247 #[.string s] w (fi none w):=by
 have f:=Lib.hid b;clear b;have i:Hid ((s.extract 0 2).size≤4):=by show _≤_;simp;omega
 have h:=Lib.hid a;clear a;have g:=Lib.hid d;have j:(4:Int)≤(s.size:Int):=by omega
 clear d;go_enter Tryz.func247,Tryz.ntmps247;go_wp2_with fail
 refine (gw s _ (by unfold maxLen;have:=g.out;omega)).mono ?_;rintro e k ⟨rfl,rfl⟩;rw [h.out];go_wp2_with fail
 refine (zI (s:=s.extract 0 2) i.out f.out).mono ?_;rintro e l ⟨rfl,rfl⟩;go_wp2_with fail
 go_ret2
 exact fi.no rfl rfl (Below.refl _ _)
theorem AG (s:ByteArray) (w:World) (j:s.size=4) (b:stood s.data.toList=1) (g:(s.extract 0 2).data.toList.all (fun c=>(iv c).isSome)=true) (W:Nat) (k:jY (s.extract 0 2).data.toList (s.extract 0 2).data.toList.length=W) (v:W < 16777216) (o:Option (List UInt8)) (h:o=(if W / 256 % 256=0∧W % 256=0 then some [sj (W / 65536)] else none)):
  Calls Tryz.prog 247 #[.string s] w (fi o w):=by
 have d:=Lib.hid h;have n:=Lib.hid g;have r:=Lib.hid k;clear g k h;have u:Hid ((s.extract 0 2).size≤4):=by show _≤_;simp;omega
 have f:=pf w W 1 3 v (by decide);have q:=Lib.hid b;clear b;have p:=Lib.hid j;have x:(4:Int)≤(s.size:Int):=by omega
 clear j;go_enter Tryz.func247,Tryz.ntmps247;go_wp2_with fail
 refine (gw s _ (by unfold maxLen;have:=p.out;omega)).mono ?_;rintro e y ⟨rfl,rfl⟩;rw [q.out];go_wp2_with fail
 refine (wj (s:=s.extract 0 2) u.out W n.out r.out).mono ?_;rintro e z ⟨rfl,rfl⟩
 cases l:(((W:Int) / 256 % 256) != 0) with
 | true=>
  have a:Hid (¬(W / 256 % 256=0∧W % 256=0)):=by
   show ¬_;have:¬(W:Int) / 256 % 256=0:=by simpa using l
   omega
  go_wp2_with fail
  go_loop [34] (fun i=>i= .int .i64 0) (fun i=>1 - (intOf i).toNat)
  case atStart=>rfl
  case round=>
   subst hrel;go_wp2
   go_ret2
   exact fi.no (d.out.trans (if_neg a.out)) rfl ((Below.refl _ _).alloc (Nat.le_refl _) _)
 | false=>
  have t:Hid ((W:Int) / 256 % 256=0):=by
   show (W:Int) / 256 % 256=0;simpa using l
  cases m:(((W:Int) % 256) != 0) with
  | true=>
   have a:Hid (¬(W / 256 % 256=0∧W % 256=0)):=by
    show ¬_;have:¬(W:Int) % 256=0:=by simpa using m
    omega
   go_wp2_with fail
   go_loop [34] (fun i=>i= .int .i64 0∨i= .int .i64 1) (fun i=>2 - (intOf i).toNat)
   case atStart=>exact Or.inl rfl
   case round=>
    rcases hrel with rfl | rfl
    ·go_wp2
     go_round
     case rel=>exact Or.inr rfl
     case measure=>decide
    ·go_wp2
     go_ret2
     exact fi.no (d.out.trans (if_neg a.out)) rfl ((Below.refl _ _).alloc (Nat.le_refl _) _)
  | false=>
   have a:Hid (W / 256 % 256=0∧W % 256=0):=by
    show _∧_;have:(W:Int) % 256=0:=by simpa using m
    have:=t.out;omega
   go_wp2_with fail
   go_loop [34] (fun i=>i= .int .i64 0∨i= .int .i64 1∨i= .int .i64 2) (fun i=>2 - (intOf i).toNat)
   case atStart=>exact Or.inl rfl
   case round=>
    rcases hrel with rfl | rfl | rfl
    ·go_wp2
     go_round
     case rel=>exact Or.inr (Or.inl rfl)
     case measure=>decide
    ·go_wp2
     go_round
     case rel=>exact Or.inr (Or.inr rfl)
     case measure=>decide
    ·go_wp2
     go_ret2
     exact fi.yes _ (d.out.trans (if_pos a.out)) rfl ((Below.refl _ _).alloc (Nat.le_refl _) _)
theorem oU (s:ByteArray) (w:World) (d:s.size=4) (a:stood s.data.toList=2) (b:(s.extract 0 3).data.toList.all (fun c=>(iv c).isSome)=false):
  Calls Tryz.prog 247 #[.string s] w (fi none w):=by
 have f:=Lib.hid b;clear b;have i:Hid ((s.extract 0 3).size≤4):=by show _≤_;simp;omega
 have h:=Lib.hid a;clear a;have g:=Lib.hid d;have j:(4:Int)≤(s.size:Int):=by omega
 clear d;go_enter Tryz.func247,Tryz.ntmps247;go_wp2_with fail
 refine (gw s _ (by unfold maxLen;have:=g.out;omega)).mono ?_;rintro e k ⟨rfl,rfl⟩;rw [h.out];go_wp2_with fail
 refine (zI (s:=s.extract 0 3) i.out f.out).mono ?_;rintro e l ⟨rfl,rfl⟩;go_wp2_with fail
 go_ret2
 exact fi.no rfl rfl (Below.refl _ _)
theorem AH (s:ByteArray) (w:World) (j:s.size=4) (a:stood s.data.toList=2) (g:(s.extract 0 3).data.toList.all (fun c=>(iv c).isSome)=true) (W:Nat) (k:jY (s.extract 0 3).data.toList (s.extract 0 3).data.toList.length=W) (t:W < 16777216) (o:Option (List UInt8)) (h:o=(if W % 256=0 then some [sj (W / 65536),sj (W / 256)] else none)):
  Calls Tryz.prog 247 #[.string s] w (fi o w):=by
 have f:=Lib.hid h;have m:=Lib.hid g;have q:=Lib.hid k;clear g k h;have r:Hid ((s.extract 0 3).size≤4):=by show _≤_;simp;omega
 have d:=pf w W 2 3 t (by decide);have p:=Lib.hid a;clear a;have n:=Lib.hid j;have u:(4:Int)≤(s.size:Int):=by omega
 clear j;go_enter Tryz.func247,Tryz.ntmps247;go_wp2_with fail
 refine (gw s _ (by unfold maxLen;have:=n.out;omega)).mono ?_;rintro e v ⟨rfl,rfl⟩;rw [p.out];go_wp2_with fail
 refine (wj (s:=s.extract 0 3) r.out W m.out q.out).mono ?_;rintro e x ⟨rfl,rfl⟩
 cases l:(((W:Int) % 256) != 0) with
 | true=>
  have b:Hid (¬W % 256=0):=by
   show ¬_;have:¬(W:Int) % 256=0:=by simpa using l
   omega
  go_wp2_with fail
  go_loop [34] (fun i=>i= .int .i64 0) (fun i=>1 - (intOf i).toNat)
  case atStart=>rfl
  case round=>
   subst hrel;go_wp2
   go_ret2
   exact fi.no (f.out.trans (if_neg b.out)) rfl ((Below.refl _ _).alloc (Nat.le_refl _) _)
 | false=>
  have b:Hid (W % 256=0):=by
   show W % 256=0;have:(W:Int) % 256=0:=by simpa using l
   omega
  go_wp2_with fail
  go_loop [34] (fun i=>i= .int .i64 0∨i= .int .i64 1) (fun i=>1 - (intOf i).toNat)
  case atStart=>exact Or.inl rfl
  case round=>
   rcases hrel with rfl | rfl
   ·go_wp2
    go_round
    case rel=>exact Or.inr rfl
    case measure=>decide
   ·go_wp2
    go_ret2
    exact fi.yes _ (f.out.trans (if_pos b.out)) rfl ((Below.refl _ _).alloc (Nat.le_refl _) _)
theorem lN (s:ByteArray) (w:World) (d:s.size=4) (a:stood s.data.toList=3) (b:(s.extract 0 4).data.toList.all (fun c=>(iv c).isSome)=false):
  Calls Tryz.prog 247 #[.string s] w (fi none w):=by
 have f:=Lib.hid b;clear b;have i:Hid ((s.extract 0 4).size≤4):=by show _≤_;simp;omega
 have h:=Lib.hid a;clear a;have g:=Lib.hid d;have j:(4:Int)≤(s.size:Int):=by omega
 clear d;go_enter Tryz.func247,Tryz.ntmps247;go_wp2_with fail
 refine (gw s _ (by unfold maxLen;have:=g.out;omega)).mono ?_;rintro e k ⟨rfl,rfl⟩;rw [h.out];go_wp2_with fail
 refine (zI (s:=s.extract 0 4) i.out f.out).mono ?_;rintro e l ⟨rfl,rfl⟩;go_wp2_with fail
 go_ret2
 exact fi.no rfl rfl (Below.refl _ _)
theorem AI (s:ByteArray) (w:World) (g:s.size=4) (a:stood s.data.toList=3) (d:(s.extract 0 4).data.toList.all (fun c=>(iv c).isSome)=true) (W:Nat) (h:jY (s.extract 0 4).data.toList (s.extract 0 4).data.toList.length=W) (q:W < 16777216) (o:Option (List UInt8)) (f:o=(some [sj (W / 65536),sj (W / 256),sj W])):
  Calls Tryz.prog 247 #[.string s] w (fi o w):=by
 have k:=Lib.hid f;have j:=Lib.hid d;have n:=Lib.hid h;clear d h f;have p:Hid ((s.extract 0 4).size≤4):=by show _≤_;simp;omega
 have b:=pf w W 3 3 q (by decide);have m:=Lib.hid a;clear a;have l:=Lib.hid g;have r:(4:Int)≤(s.size:Int):=by omega
 clear g;go_enter Tryz.func247,Tryz.ntmps247;go_wp2_with fail
 refine (gw s _ (by unfold maxLen;have:=l.out;omega)).mono ?_;rintro e t ⟨rfl,rfl⟩;rw [m.out];go_wp2_with fail
 refine (wj (s:=s.extract 0 4) p.out W j.out n.out).mono ?_;rintro e u ⟨rfl,rfl⟩;go_wp2_with fail
 go_loop [34] (fun i=>i= .int .i64 0) (fun _=>0)
 case atStart=>rfl
 case round=>
  subst hrel;go_wp2
  go_ret2
  exact fi.yes _ k.out rfl ((Below.refl _ _).alloc (Nat.le_refl _) _)
theorem J5 (a b c d:UInt8):stood [a,b,c,d]=if d=61 then (if c=61 then 1 else 2) else 3:=by
 have f:Lib.hasSuffix [a,b,c,d] [61,61]=(d == 61 && c == 61):=by
  simp only [Lib.hasSuffix,List.isSuffixOf,List.reverse_cons,List.reverse_nil,List.nil_append,List.cons_append,List.isPrefixOf,Bool.and_true];rw [BEq.comm (a:=(61:UInt8)) (b:=d),BEq.comm (a:=(61:UInt8)) (b:=c)]
 have g:Lib.hasSuffix [a,b,c,d] [61]=(d == 61):=by
  simp only [Lib.hasSuffix,List.isSuffixOf,List.reverse_cons,List.reverse_nil,List.nil_append,List.cons_append,List.isPrefixOf,Bool.and_true];rw [BEq.comm (a:=(61:UInt8)) (b:=d)]
 unfold stood;rw [f,g]
 by_cases e:d=61
 ·by_cases h:c=61 <;> simp [e,h]
 ·simp [e]
theorem wZ (s:ByteArray) (a b c d:UInt8) (w:World) (h:s.data.toList=[a,b,c,d]):
  Calls Tryz.prog 247 #[.string s] w (fi (Gc a b c d) w):=by
 have j:s.size=4:=by rw [←aJ,h];rfl
 have v:(s.extract 0 2).data.toList=[a,b]:=by rw [Lib.extract_data,h];rfl
 have n:(s.extract 0 3).data.toList=[a,b,c]:=by rw [Lib.extract_data,h];rfl
 have l:(s.extract 0 4).data.toList=[a,b,c,d]:=by rw [Lib.extract_data,h];rfl
 have e:=J5 a b c d
 by_cases o:d=61
 ·rw [if_pos o] at e
  by_cases x:c=61
  ·rw [if_pos x] at e;have u:Gc a b c d=g1 a b:=by unfold Gc;rw [if_pos o,if_pos x]
   rw [u]
   cases f:iv a with
   | none=>
    have:g1 a b=none:=by unfold g1;rw [f]
    rw [this];exact uf s w j (by rw [h,e]) (by rw [v];simp [f])
   | some p=>
    cases g:iv b with
    | none=>
     have:g1 a b=none:=by unfold g1;rw [f,g]
     rw [this];exact uf s w j (by rw [h,e]) (by rw [v];simp [f,g])
    | some q=>
     have y:=(dy f).1;have z:=(dy g).1;refine AG s w j (by rw [h,e]) (by rw [v];simp [f,g]) (p * 262144+q * 4096) ?_ (by omega) _ ?_
     ·rw [v];show jY [a,b] 2=_;simp only [jY];show 0+(iv a).getD 0 * 262144+(iv b).getD 0 * 4096=_;rw [f,g];simp
     ·unfold g1;rw [f,g];simp only
      by_cases k:q % 16=0
      ·rw [if_pos k,if_pos (by omega),show (p * 262144+q * 4096) / 65536=p * 4+q / 16 by omega]
      ·rw [if_neg k,if_neg (by omega)]
  ·rw [if_neg x] at e;have u:Gc a b c d=g2 a b c:=by unfold Gc;rw [if_pos o,if_neg x]
   rw [u]
   cases f:iv a with
   | none=>
    have:g2 a b c=none:=by unfold g2;rw [f]
    rw [this];exact oU s w j (by rw [h,e]) (by rw [n];simp [f])
   | some p=>
    cases g:iv b with
    | none=>
     have:g2 a b c=none:=by unfold g2;rw [f,g]
     rw [this];exact oU s w j (by rw [h,e]) (by rw [n];simp [f,g])
    | some q=>
     cases i:iv c with
     | none=>
      have:g2 a b c=none:=by unfold g2;rw [f,g,i]
      rw [this];exact oU s w j (by rw [h,e]) (by rw [n];simp [f,g,i])
     | some r=>
      have y:=(dy f).1;have z:=(dy g).1;have A:=(dy i).1;refine AH s w j (by rw [h,e]) (by rw [n];simp [f,g,i]) (p * 262144+q * 4096+r * 64) ?_ (by omega) _ ?_
      ·rw [n];show jY [a,b,c] 3=_;simp only [jY];show 0+(iv a).getD 0 * 262144+(iv b).getD 0 * 4096+(iv c).getD 0 * 64=_;rw [f,g,i];simp
      ·unfold g2;rw [f,g,i];simp only
       by_cases k:r % 4=0
       ·rw [if_pos k,if_pos (by omega),show (p * 262144+q * 4096+r * 64) / 65536=p * 4+q / 16 by omega,Ch ((p * 262144+q * 4096+r * 64) / 256) (sj (q % 16 * 16+r / 4)) (by rw [fk];omega)]
       ·rw [if_neg k,if_neg (by omega)]
 ·rw [if_neg o] at e;have u:Gc a b c d=g3 a b c d:=by unfold Gc;rw [if_neg o]
  rw [u]
  cases f:iv a with
  | none=>
   have:g3 a b c d=none:=by unfold g3;rw [f]
   rw [this];exact lN s w j (by rw [h,e]) (by rw [l];simp [f])
  | some p=>
   cases g:iv b with
   | none=>
    have:g3 a b c d=none:=by unfold g3;rw [f,g]
    rw [this];exact lN s w j (by rw [h,e]) (by rw [l];simp [f,g])
   | some q=>
    cases i:iv c with
    | none=>
     have:g3 a b c d=none:=by unfold g3;rw [f,g,i]
     rw [this];exact lN s w j (by rw [h,e]) (by rw [l];simp [f,g,i])
    | some r=>
     cases m:iv d with
     | none=>
      have:g3 a b c d=none:=by unfold g3;rw [f,g,i,m]
      rw [this];exact lN s w j (by rw [h,e]) (by rw [l];simp [f,g,i,m])
     | some t=>
      have y:=(dy f).1;have z:=(dy g).1;have A:=(dy i).1;have B:=(dy m).1;refine AI s w j (by rw [h,e]) (by rw [l];simp [f,g,i,m]) (p * 262144+q * 4096+r * 64+t) ?_ (by omega) _ ?_
      ·rw [l];show jY [a,b,c,d] 4=_;simp only [jY];show 0+(iv a).getD 0 * 262144+(iv b).getD 0 * 4096+(iv c).getD 0 * 64+(iv d).getD 0 * 1=_;rw [f,g,i,m];simp
      ·unfold g3;rw [f,g,i,m];simp only;rw [show (p * 262144+q * 4096+r * 64+t) / 65536=p * 4+q / 16 by omega,Ch ((p * 262144+q * 4096+r * 64+t) / 256) (sj (q % 16 * 16+r / 4)) (by rw [fk];omega),Ch (p * 262144+q * 4096+r * 64+t) (sj (r % 4 * 64+t)) (by rw [fk];omega)]
theorem kO (c:UInt8):(65≤c.toNat∧c.toNat≤90∧(Lib.lowerB c).toNat=c.toNat+32)∨(¬(65≤c.toNat∧c.toNat≤90)∧Lib.lowerB c=c):=by
 unfold Lib.lowerB Lib.isUpperB
 by_cases h:65≤c.toNat∧c.toNat≤90
 ·left
  have a:(decide ((65:UInt8)≤c) && decide (c≤90))=true:=by
   simp only [Bool.and_eq_true,decide_eq_true_eq,UInt8.le_iff_toNat_le,UInt8.reduceToNat];exact h
  rw [if_pos a,UInt8.toNat_add];simp only [UInt8.reduceToNat];omega
 ·right
  have a:¬(decide ((65:UInt8)≤c) && decide (c≤90))=true:=by
   simp only [Bool.and_eq_true,decide_eq_true_eq,UInt8.le_iff_toNat_le,UInt8.reduceToNat];exact h
  rw [if_neg a];exact ⟨h,rfl⟩
theorem Ho (c:UInt8):Gk (Lib.lowerB c)=Gk c:=by
 rcases kO c with ⟨b,d,a⟩ | ⟨_,h⟩
 ·unfold Gk Fj ix;rw [a];rw [Bool.eq_iff_iff];simp only [Bool.or_eq_true,Bool.and_eq_true,decide_eq_true_eq];omega
 ·rw [h]
theorem uI (c d:UInt8) (j:d.toNat < 65):(Lib.lowerB c == d)=(c == d):=by
 rcases kO c with ⟨a,i,b⟩ | ⟨_,h⟩
 ·have f:(Lib.lowerB c == d)=false:=by rw [beq_eq_false_iff_ne];intro e;rw [e] at b;omega
  have g:(c == d)=false:=by rw [beq_eq_false_iff_ne];intro e;rw [e] at a;omega
  rw [f,g]
 ·rw [h]
theorem C8 (c:UInt8):Lib.lowerB (Lib.lowerB c)=Lib.lowerB c:=by
 rcases kO c with ⟨a,b,d⟩ | ⟨_,h⟩
 ·rcases kO (Lib.lowerB c) with ⟨g1,g2,_⟩ | ⟨_,g⟩
  ·omega
  ·exact g
 ·rw [h,h]
theorem Bc (l:List UInt8):Lib.toLowerA (Lib.toLowerA l)=Lib.toLowerA l:=by
 unfold Lib.toLowerA;rw [List.map_map];apply List.map_congr_left;intro c _;exact C8 c
theorem uH (l:List UInt8):(Lib.toLowerA l).length=l.length:=by simp [Lib.toLowerA]
theorem rK (l:List UInt8) (i:Nat) (d:UInt8) (a:d.toNat < 65) (_:d≠0):((Lib.toLowerA l).getD i 0 == d)=(l.getD i 0 == d):=by
 unfold Lib.toLowerA;rw [List.getD_eq_getElem?_getD,List.getD_eq_getElem?_getD,List.getElem?_map]
 cases l[i]? with
 | none=>rfl
 | some c=>exact uI c d a
theorem CS (l:List UInt8):ux (Lib.toLowerA l)=ux l:=by
 unfold ux;rw [uH,rK l 0 45 (by decide) (by decide),rK l (l.length - 1) 45 (by decide) (by decide)]
 congr 1
 unfold Lib.toLowerA;rw [List.all_map]
 congr 1
 funext c
 simp only [Function.comp];rw [Ho,uI c 45 (by decide)]
theorem FF (c:UInt8) (l:List UInt8):du c l≠[]:=by
 cases l with
 | nil=>simp [du]
 | cons b r=>unfold du;split <;> simp
theorem LX:∀l:List UInt8,du 46 (Lib.toLowerA l)=(du 46 l).map Lib.toLowerA
 | []=>rfl
 | b::r=>by
  have c:=LX r;have e:Lib.toLowerA (b::r)=Lib.lowerB b::Lib.toLowerA r:=rfl
  have a:Lib.lowerB b=46 ↔ b=46:=by
   have:=uI b 46 (by decide);rw [Bool.eq_iff_iff,beq_iff_eq,beq_iff_eq] at this;exact this
  rw [e];unfold du
  by_cases h:b=46
  ·rw [if_pos (a.2 h),if_pos h,c];rfl
  ·rw [if_neg (fun x=>h (a.1 x)),if_neg h,c];obtain ⟨p,f,d⟩:=List.exists_cons_of_ne_nil (FF 46 r);rw [d];rfl
theorem CB (l:List UInt8):Az (Lib.toLowerA l)=Az l:=by
 unfold Az;rw [LX,uH,List.all_map]
 congr 1
 ·congr 2
  cases l <;> rfl
 ·congr 1
  funext p
  exact CS p
theorem JV {l x:List UInt8} (c:∀a∈x,a≠64):cz 64 (x++64::l)=(x,l,true):=by
 induction x with
 | nil=>simp [cz]
 | cons a x ih=>
  have d:=c a (List.mem_cons_self ..);have:=ih (fun b e=>c b (List.mem_cons_of_mem _ e));simp only [List.cons_append];unfold cz;rw [this];simp [d]
theorem qI {l:List UInt8} (h:(jb l).2=true):dH (dY l)=true:=by
 have g:dY l=(fq l).1++64::(fq l).2.1:=by unfold dY;rw [h];rfl
 have d:(fq l).2.2=true:=h
 have j:p8 (cz 64 l).1=true∧jj (cz 64 l).2.1=true∧fq l=((cz 64 l).1,Lib.toLowerA (cz 64 l).2.1,true):=by
  unfold fq at d ⊢
  split at d
  ·rename_i b
   rw [Bool.and_eq_true] at b;exact ⟨b.1,b.2,by rw [if_pos (by rw [b.1,b.2];rfl)]⟩
  ·cases d
 obtain ⟨c,m,i⟩:=j
 have f:∀a∈(cz 64 l).1,a≠64:=by
  intro a n e;subst e;unfold p8 at c;rw [Bool.and_eq_true] at c;have:=List.all_eq_true.1 c.2 64 n
  revert this
  decide
 have k:fq (dY l)=((cz 64 l).1,Lib.toLowerA (cz 64 l).2.1,true):=by
  rw [g,i];simp only;unfold fq;rw [JV f];simp only;rw [c,yU,CB,←yU,m,Bc];rfl
 unfold dH jb;rw [k,g,i];simp
theorem oQ (l:List UInt8) (w:World) (d:l.length≤281474976710656):Calls Tryz.prog 69 #[.string (bs l)] w fun e a=>e= .returned (.string (bs l))∧Below w.heap.size w a:=by
 have c:=Tryz.stringslite_Clone (bs l) w (by rw [aG];exact d);go_enter Tryz.func69,Tryz.ntmps69;go_wp2_with fail
 refine c.mono ?_;rintro e a ⟨rfl,b⟩;go_wp2_with fail
 go_ret;exact ⟨rfl,b⟩
def gy (l:List (Nat×List UInt8)):List (List UInt8):=l.map (·.2)
theorem Bq {D:Array Value} {k n:Nat} {b:List Value} {x:Value} (e:D.size=n) (f:k < n) (d:b.length=k) (h:D.toList.take k=b):(D.setIfInBounds k x).toList.take (k+1)=b++[x]:=by
 apply List.ext_getElem?;intro j;rw [List.getElem?_take]
 rcases Nat.lt_or_ge j k with c | c
 ·rw [if_pos (by omega),List.getElem?_append_left (by omega),Array.getElem?_toList,Array.getElem?_setIfInBounds_ne (by omega),←h,List.getElem?_take,if_pos c,Array.getElem?_toList]
 ·rw [List.getElem?_append_right (by omega),d]
  rcases Nat.lt_or_ge j (k+1) with a | a
  ·obtain rfl:j=k:=by omega
   rw [if_pos (by omega),Array.getElem?_toList,Array.getElem?_setIfInBounds];simp;omega
  ·rw [if_neg (by omega),List.getElem?_eq_none (by simp;omega)]
structure TS (w:World) (W:World) (s n:Nat) (D:Array Value) (xs:List Value) (k:Nat):Prop where
 size:D.size=n
 take:D.toList.take k=xs
 row:W.heap[s+1]? =some (.cells D 9 (0,0))
 mail:W.heap[s]? =some (.cells #[.int .i64 0,.int .i64 0,.string ⟨#[]⟩,.slice none 0 0,.string ⟨#[]⟩] 45 (0,0))
 below:Below s w W
 big:s+2≤W.heap.size
theorem TS.keep {w W b:World} {s n k:Nat} {D:Array Value} {c:List Value} (h:TS w W s n D c k) (a:Below W.heap.size W b):TS w b s n D c k:=
 ⟨h.size,h.take,ae a h.row,ae a h.mail,h.below.trans (a.mono (by have:=h.big;omega)),Nat.le_trans h.big a.size⟩
theorem TS.put {w W:World} {s n k:Nat} {D:Array Value} {b:List Value} (h:TS w W s n D b k) (c:k < n) (d:b.length=k) (x:Value):TS w (W.setCell ⟨s+1,k,none⟩ x) s n (D.setIfInBounds k x) (b++[x]) (k+1):=by
 have a:aL (s+1) W (W.setCell ⟨s+1,k,none⟩ x):=(aL.refl _ _).setCell _;exact ⟨by simp [h.size],Bq h.size c d h.take,heap_setCell_same W (s+1) k _ _ x h.row,aP a h.mail (by omega),h.below.trans (a.below (by omega)),by rw [a.1];exact h.big⟩
theorem IK {w W c:World} {l:List (Nat×List UInt8)} {g b:Nat} {d a:List UInt8} {D:Array Value} (h:TS w W w.heap.size l.length D (cm (gy l)) l.length)
  (f:(((((W.setCell ⟨w.heap.size,0,none⟩ (.int .i64 g)).setCell ⟨w.heap.size,1,none⟩ (.int .i64 b)).setCell ⟨w.heap.size,2,none⟩ (.string (bs d))).setCell ⟨w.heap.size,3,none⟩ (.slice (some ⟨w.heap.size+1,0,none⟩) l.length l.length)).setCell ⟨w.heap.size,4,none⟩ (.string (bs a)))=c) (i:l.length≤255):
  c.heap[w.heap.size]? =some (.cells #[.int .i64 g,.int .i64 b,.string (bs d),.slice (some ⟨w.heap.size+1,0,none⟩) l.length l.length,.string (bs a)] 45 (0,0))∧c.ownsRow w.heap.size 9 1 (.slice (some ⟨w.heap.size+1,0,none⟩) l.length l.length) l.length (cm (gy l))∧Below w.heap.size w c:=by
 have e:aL w.heap.size W c:=by rw [←f];exact (((((aL.refl _ _).setCell _).setCell _).setCell _).setCell _).setCell _
 refine ⟨?_,⟨by simp [cm,gy],.inr ⟨w.heap.size+1,l.length,D,rfl,by omega,aP e h.row (by omega),Nat.le_refl _,by unfold maxLen;omega,by rw [h.size];omega,?_⟩⟩,h.below.trans (e.below (Nat.le_refl _))⟩
 ·rw [←f];exact heap_setCell_same _ _ 4 _ _ _ (heap_setCell_same _ _ 3 _ _ _ (heap_setCell_same _ _ 2 _ _ _ (heap_setCell_same _ _ 1 _ _ _ (heap_setCell_same _ _ 0 _ _ _ h.mail))))
 ·rw [Nat.mul_one,h.take]
theorem IJ (O q id d:Nat) (f b:List UInt8) (v:Value) (l:List (Nat×List UInt8)) (x:Int×Int) (w:World) (h:dL w q d f v b x) (hv:w.ownsRow O 162 2 v l.length (aR l)) (hl:l.length≤255) (hf:f.length≤255) (b6:b.length≤1048576) (hn:∀x∈l,x.2.length≤255):
  Calls Tryz.prog 60 #[.pointer (some ⟨q,0,none⟩),.int .i64 id] w fun e A=>∃g,e= .returned (.agg (aY ⟨id,d,f,gy l,b⟩ (.slice (some ⟨g,0,none⟩) l.length l.length)))∧w.heap.size≤g∧A.ownsRow w.heap.size 9 1 (.slice (some ⟨g,0,none⟩) l.length l.length) l.length (cm (gy l))∧Below w.heap.size w A:=by
 have HV:=Lib.hid hv;have HH:=Lib.hid h
 obtain ⟨E,H,rfl⟩:∃a c,v= .slice a l.length c:=by
  rcases hv.2 with ⟨e,h0⟩ | ⟨g,b5,b1,e,_⟩
  ·exact ⟨_,_,by rw [h0];exact e⟩
  ·exact ⟨_,_,e⟩
 have X:=fun A=>Dc (P:=Tryz.prog) Tryz.underlying25 nR l.length (by omega) (by omega) A;obtain ⟨C,eC⟩:∃C,madeCells (Value.string ⟨#[]⟩).cells (l.length * 1)=C:=⟨_,rfl⟩;have S:C.size=l.length:=by rw [←eC];simp [madeCells]
 rw [eC] at X;obtain ⟨W0,p⟩:∃W0:World,(w.alloc (.cells #[.int .i64 0,.int .i64 0,.string ⟨#[]⟩,.slice none 0 0,.string ⟨#[]⟩] 45)).alloc (.cells C 9)=W0:=⟨_,rfl⟩
 have T0:Hid (TS w W0 w.heap.size l.length C [] 0):=Lib.hid ⟨S,rfl,by
   rw [←p];have:=heap_alloc_new (w.alloc (.cells #[.int .i64 0,.int .i64 0,.string ⟨#[]⟩,.slice none 0 0,.string ⟨#[]⟩] 45)) (.cells C 9);simpa using this,by
   rw [←p];exact ae ((Below.refl _ _).alloc (Nat.le_refl _) _) (heap_alloc_new w _),by
   rw [←p]
   exact ((Below.refl _ _).alloc (Nat.le_refl _) _).alloc (by simp) _,by rw [←p];simp⟩
 have b3:q < w.heap.size:=sZ h
 have k0:∀o:Obj,(w.alloc o).cell? ⟨q,2,none⟩=some (.slice E l.length H):=fun o=>by
  rw [Lib.cell_of_heap (ae ((Below.refl _ w).alloc (Nat.le_refl _) o) h)];rfl
 have k1:∀o o':Obj,((w.alloc o).alloc o').cell? ⟨q,2,none⟩=some (.slice E l.length H):=fun o o'=>by
  rw [Lib.cell_of_heap (ae ((Below.refl _ (w.alloc o)).alloc (Nat.le_refl _) o') (ae ((Below.refl _ w).alloc (Nat.le_refl _) o) h))];rfl
 have a7:=Lib.hid p;clear h hv p;go_enter Tryz.func60,Tryz.ntmps60;go_wp2_with fail
 rw [a7.out];have a5:Hid (∀x∈l,x.2.length≤255):=Lib.hid hn;clear k0 k1 hn X;go_loopw [6,7,19] (fun _ _ i A=>∃(k:Nat) (D:Array Value),k≤l.length∧i= .int .i64 k∧Hid (TS w A w.heap.size l.length D (cm (gy (l.take k))) k)) (fun _ _ i _=>l.length - (intOf i).toNat)
 case atStart=>exact ⟨0,C,Nat.zero_le _,rfl,T0⟩
 case round=>
  clear T0 S eC;obtain ⟨k,D,hk,rfl,z⟩:=hrel
  by_cases t:k < l.length
  ·have b4:(k:Int) < (l.length:Int):=by omega
   obtain ⟨g,rfl,Q,R⟩:∃g,E=some ⟨g,0,none⟩∧w.cell? ⟨g,k * 2,none⟩=some (.int .i64 (l[k].1:Int))∧w.cell? ⟨g,k * 2+1,none⟩=some (.string (bs l[k].2)):=by
    rcases HV.out.2 with ⟨_,h0⟩ | ⟨g,cp,b1,e,_,hg,_,_,_,Y⟩
    ·omega
    ·injection e with e1 _ _;refine ⟨g,e1,?_,?_⟩
     ·rw [Lib.cell_of_heap hg,←Array.getElem?_toList,←List.getElem?_take_of_lt (show k * 2 < l.length * 2 by omega),Y];exact (dP l k t).1
     ·rw [Lib.cell_of_heap hg,←Array.getElem?_toList,←List.getElem?_take_of_lt (show k * 2+1 < l.length * 2 by omega),Y];exact (dP l k t).2
   have d0:wr.cell? ⟨g,k * 2,none⟩=some (.int .i64 (l[k].1:Int)):=(z.out.below.cell (by exact eI Q)).trans Q;have d1:wr.cell? ⟨g,k * 2+1,none⟩=some (.string (bs l[k].2)):=(z.out.below.cell (by exact eI R)).trans R;have Z:=a5.out l[k] (List.getElem_mem t);have B:Hid (cm (gy (l.take (k+1)))=cm (gy (l.take k))++[.string (bs l[k].2)]):=Lib.hid (by rw [List.take_succ_eq_append_getElem t];unfold gy cm;rw [List.map_append,List.map_append];rfl);have a9:Hid ((cm (gy (l.take k))).length=k):=Lib.hid (by simp [gy,cm];omega);obtain ⟨x,ex⟩:∃x,l[k]=x:=⟨_,rfl⟩;rw [ex] at d0 d1 Z B;obtain ⟨P,T⟩:=x;simp only at d0 d1 Z B;obtain ⟨W1,F⟩:∃W1:World,wr.alloc (.cells #[.int .i64 (P:Int),.string (bs T)] 162)=W1:=⟨_,rfl⟩;have B1:Below wr.heap.size wr W1:=by rw [←F];exact (Below.refl _ _).alloc (Nat.le_refl _) _
   have T1:=Lib.hid (z.out.keep B1);have a8:=Lib.hid F;have a3:=Lib.hid (oQ T W1 (by omega));clear ex Q R z B1 F;go_wp2_with fail
   rw [a8.out];refine a3.out.mono ?_;rintro e w2 ⟨rfl,V⟩;have N:=T1.out.keep V;have x0:∃u,w2.cell? ⟨w.heap.size+1,k,none⟩=some u:=by rw [Lib.cell_of_heap N.row];exact ⟨_,Array.getElem?_eq_getElem (by have:=N.size;omega)⟩
   obtain ⟨u0,x0⟩:=x0;have y0:=Lib.frozen_of_heap N.row k;have T3:=Lib.hid (N.put t a9.out (.string (bs T)));clear N V;go_wp2_with fail
   exact ⟨⟨k+1,_,by omega,by go_num,Lib.hid (by rw [B.out];exact T3.out)⟩,by simp [intOf];omega⟩
  ·have b2:k=l.length:=by omega
   subst b2;rw [List.take_length] at z;have U:dL wr q d f (.slice E l.length H) b x:=(z.out.below.block q b3).trans HH.out;have p0:wr.drew.cell? ⟨q,0,none⟩=some (.int .i64 d):=by show wr.cell? _=_;rw [Lib.cell_of_heap U];rfl
   have p1:wr.drew.cell? ⟨q,1,none⟩=some (.string (bs f)):=by show wr.cell? _=_;rw [Lib.cell_of_heap U];rfl
   have p3:wr.drew.cell? ⟨q,3,none⟩=some (.string (bs b)):=by show wr.cell? _=_;rw [Lib.cell_of_heap U];rfl
   have a6:=Lib.hid (z.out.keep ((Below.refl _ _).drew));have a4:Hid (dL wr.drew q d f (.slice E l.length H) b x):=Lib.hid U;have a2:=Lib.hid (oQ f wr.drew (by omega));have a1:Hid (∀W:World,Calls Tryz.prog 69 #[.string (bs b)] W fun e A=>e= .returned (.string (bs b))∧Below W.heap.size W A):=Lib.hid (fun W=>oQ b W (by omega));clear U z;go_wp2_with fail
   go_region_law (first
    | (go_simp;go_at_call 69;refine a2.out.mono ?_;rintro e w9 ⟨rfl,G⟩;have T9:=Lib.hid (a6.out.keep G);have P9:Hid (dL w9 q d f (.slice E l.length H) b x):=Lib.hid (ae G a4.out);have b7:w9.cell? ⟨q,0,none⟩=some (.int .i64 d):=(by rw [Lib.cell_of_heap P9.out];rfl);have b8:w9.cell? ⟨q,3,none⟩=some (.string (bs b)):=(by rw [Lib.cell_of_heap P9.out];rfl);clear G)
    | (go_simp;go_at_call 69;refine (a1.out w9).mono ?_;rintro e j ⟨rfl,s⟩;have r:=T9.out.keep s;have M:dL j q d f (.slice E l.length H) b x:=ae s P9.out;have a0:j.cell? ⟨q,0,none⟩=some (.int .i64 d):=(by rw [Lib.cell_of_heap M];rfl);have m0:j.cell? ⟨w.heap.size,0,none⟩=some (.int .i64 0):=(by rw [Lib.cell_of_heap r.mail];rfl);have m1:j.cell? ⟨w.heap.size,1,none⟩=some (.int .i64 0):=(by rw [Lib.cell_of_heap r.mail];rfl);have m2:j.cell? ⟨w.heap.size,2,none⟩=some (.string ⟨#[]⟩):=(by rw [Lib.cell_of_heap r.mail];rfl);have m3:j.cell? ⟨w.heap.size,3,none⟩=some (.slice none 0 0):=(by rw [Lib.cell_of_heap r.mail];rfl);have m4:j.cell? ⟨w.heap.size,4,none⟩=some (.string ⟨#[]⟩):=(by rw [Lib.cell_of_heap r.mail];rfl);have n0:=Lib.frozen_of_heap r.mail 0;have n1:=Lib.frozen_of_heap r.mail 1;have n2:=Lib.frozen_of_heap r.mail 2;have n3:=Lib.frozen_of_heap r.mail 3;have n4:=Lib.frozen_of_heap r.mail 4;have b0:=Lib.hid r;clear s r M))
   all_goals
    obtain ⟨m,y⟩:∃m:World,(((((j.setCell ⟨w.heap.size,0,none⟩ (.int .i64 id)).setCell ⟨w.heap.size,1,none⟩ (.int .i64 d)).setCell ⟨w.heap.size,2,none⟩ (.string (bs f))).setCell ⟨w.heap.size,3,none⟩ (.slice (some ⟨w.heap.size+1,0,none⟩) l.length l.length)).setCell ⟨w.heap.size,4,none⟩ (.string (bs b)))=m:=⟨_,rfl⟩;rw [y];obtain ⟨n,L,I⟩:=IK b0.out y hl;have Q:m.cell? ⟨w.heap.size,0,none⟩=some (.int .i64 id):=by rw [Lib.cell_of_heap n];rfl
    have R:m.cell? ⟨w.heap.size,1,none⟩=some (.int .i64 d):=by rw [Lib.cell_of_heap n];rfl
    have c2:m.cell? ⟨w.heap.size,2,none⟩=some (.string (bs f)):=by rw [Lib.cell_of_heap n];rfl
    have c3:m.cell? ⟨w.heap.size,3,none⟩=some (.slice (some ⟨w.heap.size+1,0,none⟩) l.length l.length):=by rw [Lib.cell_of_heap n];rfl
    have c4:m.cell? ⟨w.heap.size,4,none⟩=some (.string (bs b)):=by rw [Lib.cell_of_heap n];rfl
    have K:=Lib.hid L;have J:=Lib.hid I;clear y n L I m0 m1 m2 m3 m4 n0 n1 n2 n3 n4 a0 p0 p1 p3;go_wp2_with fail
    refine bodyPost_ret (v:= .agg #[.int .i64 id,.int .i64 d,.string (bs f),.slice (some ⟨w.heap.size+1,0,none⟩) l.length l.length,.string (bs b)]) (by simp [results,Tryz.results60,go_sem,Q,R,c2,c3,c4]) rfl ?_;exact ⟨w.heap.size+1,rfl,by omega,K.out,J.out⟩
theorem qP:(Tryz.prog.info? 3).map (fun i=>(i.zero,i.size,i.bytes))=some (some (.int .i64 0),1,8):=by kernel_rfl
structure PS (w W:World) (s n:Nat) (D:Array Value) (xs:List Value) (k:Nat):Prop where
 size:D.size=n
 take:D.toList.take k=xs
 row:W.heap[s]? =some (.cells D 3 (0,0))
 below:Below s w W
 big:s+1≤W.heap.size
theorem PS.keep {w W b:World} {s n k:Nat} {D:Array Value} {c:List Value} (h:PS w W s n D c k) (a:Below W.heap.size W b):PS w b s n D c k:=
 ⟨h.size,h.take,ae a h.row,h.below.trans (a.mono (by have:=h.big;omega)),Nat.le_trans h.big a.size⟩
theorem PS.put {w W:World} {s n k:Nat} {D:Array Value} {a:List Value} (h:PS w W s n D a k) (c:k < n) (d:a.length=k) (x:Value):PS w (W.setCell ⟨s,k,none⟩ x) s n (D.setIfInBounds k x) (a++[x]) (k+1):=by
 have b:aL s W (W.setCell ⟨s,k,none⟩ x):=(aL.refl _ _).setCell _;exact ⟨by simp [h.size],Bq h.size c d h.take,heap_setCell_same W s k _ _ x h.row,h.below.trans (b.below (by omega)),by rw [b.1];exact h.big⟩
theorem Dr (s q B:Nat) (N t:List UInt8) (v:Value) (l:List (Nat×List UInt8)) (x:Int×Int) (w:World) (h:dL w q B N v t x) (Q:w.ownsRow s 162 2 v l.length (aR l)) (hl:l.length≤255):
  Calls Tryz.prog 84 #[.pointer (some ⟨q,0,none⟩)] w fun e n=>∃g,e= .returned (.slice (some ⟨g,0,none⟩) l.length l.length)∧n.ownsRow w.heap.size 3 1 (.slice (some ⟨g,0,none⟩) l.length l.length) l.length (aZ (l.map (·.1)))∧Below w.heap.size w n:=by
 have HV:=Lib.hid Q
 obtain ⟨I,V,rfl⟩:∃a c,v= .slice a l.length c:=by
  rcases Q.2 with ⟨e,Z⟩ | ⟨g,a1,L,e,_⟩
  ·exact ⟨_,_,by rw [Z];exact e⟩
  ·exact ⟨_,_,e⟩
 have z:=fun n=>Dc (P:=Tryz.prog) Tryz.underlying28 qP l.length (by omega) (by omega) n;obtain ⟨C,M⟩:∃C,madeCells (Value.int .i64 0).cells (l.length * 1)=C:=⟨_,rfl⟩;have y:C.size=l.length:=by rw [←M];simp [madeCells]
 rw [M] at z;obtain ⟨H,b⟩:∃H:World,w.alloc (.cells C 3)=H:=⟨_,rfl⟩;have U:Hid (PS w H w.heap.size l.length C [] 0):=Lib.hid ⟨y,rfl,by rw [←b];exact heap_alloc_new w _,by rw [←b];exact (Below.refl _ _).alloc (Nat.le_refl _) _,by rw [←b];simp⟩
 have k0:w.cell? ⟨q,2,none⟩=some (.slice I l.length V):=by rw [Lib.cell_of_heap h];rfl
 have k1:∀o:Obj,(w.alloc o).cell? ⟨q,2,none⟩=some (.slice I l.length V):=fun o=>by rw [Lib.cell_of_heap (ae ((Below.refl _ w).alloc (Nat.le_refl _) o) h)];rfl
 have E:=Lib.hid b;clear h Q b;go_enter Tryz.func84,Tryz.ntmps84;go_wp2_with fail
 rw [E.out];clear k0 k1 z;go_loopw [4,5,17] (fun _ _ i n=>∃(k:Nat) (D:Array Value),k≤l.length∧i= .int .i64 k∧Hid (PS w n w.heap.size l.length D (aZ ((l.map (·.1)).take k)) k)) (fun _ _ i _=>l.length - (intOf i).toNat)
 case atStart=>exact ⟨0,C,Nat.zero_le _,rfl,U⟩
 case round=>
  clear U y M;obtain ⟨k,D,hk,rfl,j⟩:=hrel
  by_cases f:k < l.length
  ·have a0:(k:Int) < (l.length:Int):=by omega
   obtain ⟨g,rfl,J,K⟩:∃g,I=some ⟨g,0,none⟩∧w.cell? ⟨g,k * 2,none⟩=some (.int .i64 (l[k].1:Int))∧w.cell? ⟨g,k * 2+1,none⟩=some (.string (bs l[k].2)):=by
    rcases HV.out.2 with ⟨_,Z⟩ | ⟨g,cp,L,e,_,hg,_,_,_,A⟩
    ·omega
    ·injection e with e1 _ _;refine ⟨g,e1,?_,?_⟩
     ·rw [Lib.cell_of_heap hg,←Array.getElem?_toList,←List.getElem?_take_of_lt (show k * 2 < l.length * 2 by omega),A];exact (dP l k f).1
     ·rw [Lib.cell_of_heap hg,←Array.getElem?_toList,←List.getElem?_take_of_lt (show k * 2+1 < l.length * 2 by omega),A];exact (dP l k f).2
   have W:wr.cell? ⟨g,k * 2,none⟩=some (.int .i64 (l[k].1:Int)):=(j.out.below.cell (by exact eI J)).trans J;have X:wr.cell? ⟨g,k * 2+1,none⟩=some (.string (bs l[k].2)):=(j.out.below.cell (by exact eI K)).trans K;have m:Hid (aZ ((l.map (·.1)).take (k+1))=aZ ((l.map (·.1)).take k)++[.int .i64 (l[k].1:Int)]):=Lib.hid (by rw [List.take_succ_eq_append_getElem (by rw [List.length_map];exact f)];unfold aZ;rw [List.map_append,List.getElem_map];rfl);have G:Hid ((aZ ((l.map (·.1)).take k)).length=k):=Lib.hid (by simp [aZ];omega);obtain ⟨x,Y⟩:∃x,l[k]=x:=⟨_,rfl⟩;rw [Y] at W X m;obtain ⟨P,T⟩:=x;simp only at W X m;obtain ⟨r,d⟩:∃r:World,wr.alloc (.cells #[.int .i64 (P:Int),.string (bs T)] 162)=r:=⟨_,rfl⟩;have S:Below wr.heap.size wr r:=by rw [←d];exact (Below.refl _ _).alloc (Nat.le_refl _) _
   have p:=j.out.keep S;have R:∃u,r.cell? ⟨w.heap.size,k,none⟩=some u:=by rw [Lib.cell_of_heap p.row];exact ⟨_,Array.getElem?_eq_getElem (by have:=p.size;omega)⟩
   obtain ⟨u0,R⟩:=R;have y0:=Lib.frozen_of_heap p.row k;have z0:r.cell? ⟨wr.heap.size,0,none⟩=some (.int .i64 (P:Int)):=by rw [←d,Lib.cell_of_heap (heap_alloc_new wr _)];rfl
   have T3:=Lib.hid (p.put f G.out (.int .i64 (P:Int)));have F:=Lib.hid d;rw [←d] at R y0;clear Y J K j S d p z0;go_wp2_with fail
   rw [F.out];exact ⟨⟨k+1,_,by omega,by go_num,Lib.hid (by rw [m.out];exact T3.out)⟩,by simp [intOf];omega⟩
  ·have O:k=l.length:=by omega
   subst O;go_wp2_with fail
   go_ret;refine ⟨w.heap.size,rfl,⟨by simp [aZ],.inr ⟨w.heap.size,l.length,D,rfl,Nat.le_refl _,j.out.row,Nat.le_refl _,by unfold maxLen;omega,by rw [j.out.size];omega,?_⟩⟩,j.out.below⟩
   rw [Nat.mul_one,j.out.take,List.take_of_length_le (by rw [List.length_map];exact Nat.le_refl _)]

end Go.Proofs.YtofpegbpgkkgkaaGreatDoor
