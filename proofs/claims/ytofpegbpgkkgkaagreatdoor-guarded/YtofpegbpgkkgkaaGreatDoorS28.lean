import Derived.Test.YtofpegbpgkkgkaaGreatDoorS22
import Derived.Test.YtofpegbpgkkgkaaGreatDoorS09
namespace Go.Proofs.YtofpegbpgkkgkaaGreatDoor
set_option maxHeartbeats 8000000
set_option maxRecDepth 1000000
open Go.RowKit
def og (l:List UInt8):Bool:=decide (1≤l.length) && decide (l.length≤9) && !(decide (1 < l.length) && (l.getD 0 0 == 48)) && l.all fun c=>gW c.toNat
theorem BO {l:List UInt8} (h:l.length < 1):og l=false:=by unfold og;rw [decide_eq_false (by omega)];rfl
theorem DX {l:List UInt8} (h:9 < l.length):og l=false:=by unfold og;rw [decide_eq_false (p:=l.length≤9) (by omega),Bool.and_false];rfl
theorem DY {l:List UInt8} (h:1 < l.length) (a:l.getD 0 0=48):og l=false:=by unfold og;rw [decide_eq_true (p:=1 < l.length) h,a];simp
theorem zL {l:List UInt8} (b:1≤l.length) (d:l.length≤9) (a:l.length=1∨l.getD 0 0≠48):og l=l.all fun c=>gW c.toNat:=by
 unfold og;rw [decide_eq_true b,decide_eq_true d]
 have:(decide (1 < l.length) && (l.getD 0 0 == 48))=false:=by
  rcases a with a | a
  ·rw [decide_eq_false (by omega)];rfl
  ·rw [beq_eq_false_iff_ne.2 a,Bool.and_false]
 rw [this];simp
theorem xC (s:ByteArray) (w:World) (y:s.size≤maxLen):
  Calls Tryz.prog 248 #[.string s] w fun e A=>e= .returned (.bool (og s.data.toList))∧A=w:=by
 unfold maxLen at y;have z:=aG s
 by_cases B:s.size < 1
 ·have b:=Lib.hid (BO (l:=s.data.toList) (by omega));have x:(s.size:Int) < 1:=by omega
  go_enter Tryz.func248,Tryz.ntmps248;go_wp2_with fail
  go_ret;exact ⟨by rw [b.out];rfl,rfl⟩
 ·have x:¬(s.size:Int) < 1:=by omega
  by_cases C:9 < s.size
  ·have b:=Lib.hid (DX (l:=s.data.toList) (by omega));have h:(9:Int) < (s.size:Int):=by omega
   go_enter Tryz.func248,Tryz.ntmps248;go_wp2_with fail
   go_ret;exact ⟨by rw [b.out];rfl,rfl⟩
  ·have h:¬(9:Int) < (s.size:Int):=by omega
   by_cases D:s.size=1
   ·have b:=Lib.hid (zL (l:=s.data.toList) (by omega) (by omega) (.inl (by omega)));have t:¬(1:Int) < (s.size:Int):=by omega
    go_enter Tryz.func248,Tryz.ntmps248;go_wp2_with fail
    go_loop [24] (fun i=>∃k:Nat,k≤s.size∧i= .int .i64 k∧Hid (∀j:Nat,j < k→(fun c:UInt8=>gW c.toNat) (s.data.toList.getD j 0)=true)) (fun i=>s.size - (intOf i).toNat)
    case atStart=>exact ⟨0,Nat.zero_le _,rfl,fun j h=>by omega⟩
    case round=>
     obtain ⟨k,t,rfl,n⟩:=hrel
     by_cases a:k < s.size
     ·have o:(k:Int) < (s.size:Int):=by omega
      have g:Hid (s.data.toList.getD k 0=s[k]):=kg s k a
      by_cases u:(s[k].toNat:Int) < 48
      ·have d:Hid ((fun c:UInt8=>gW c.toNat) s[k]=false):=Lib.hid (by simp only [gW];rw [decide_eq_false (by omega)];rfl);go_wp2_with fail
       go_ret;exact ⟨cA (by rw [b.out];exact (pH (p:=fun c:UInt8=>gW c.toNat) (by rw [aG];exact a) (by rw [g.out];exact d.out)).symm),rfl⟩
      ·by_cases r:(57:Int) < (s[k].toNat:Int)
       ·have d:Hid ((fun c:UInt8=>gW c.toNat) s[k]=false):=Lib.hid (by simp only [gW];rw [decide_eq_false (p:=(s[k].toNat:Int)≤57) (by omega),Bool.and_false]);go_wp2_with fail
        go_ret;exact ⟨cA (by rw [b.out];exact (pH (p:=fun c:UInt8=>gW c.toNat) (by rw [aG];exact a) (by rw [g.out];exact d.out)).symm),rfl⟩
       ·have d:Hid ((fun c:UInt8=>gW c.toNat) s[k]=true):=Lib.hid (by simp only [gW];rw [decide_eq_true (by omega),decide_eq_true (by omega)];rfl);go_wp2_with fail
        exact ⟨⟨k+1,by omega,by go_num,Lib.hid (pk (p:=fun c:UInt8=>gW c.toNat) n.out g.out d.out)⟩,by simp [intOf];omega⟩
     ·go_wp2_with fail
      go_ret;exact ⟨cA (by rw [b.out];exact (wI (p:=fun c:UInt8=>gW c.toNat) (fun j h=>n.out j (by rw [aG] at h;omega))).symm),rfl⟩
   ·have t:(1:Int) < (s.size:Int):=by omega
    have v:0 < s.size:=by omega
    have f:=kg s 0 v
    by_cases m:s[0]=48
    ·have b:=Lib.hid (DY (l:=s.data.toList) (by omega) (by rw [f,m]));have q:((s[0].toNat:Int) == 48)=true:=by rw [m];rfl
     clear m f;go_enter Tryz.func248,Tryz.ntmps248;go_wp2_with fail
     go_ret;exact ⟨by rw [b.out];rfl,rfl⟩
    ·have b:=Lib.hid (zL (l:=s.data.toList) (by omega) (by omega) (.inr (by rw [f];exact m)))
     have q:((s[0].toNat:Int) == 48)=false:=by
      rw [beq_eq_false_iff_ne];intro e;exact m (UInt8.toNat_inj.1 (by show s[0].toNat=48;omega))
     clear m f;go_enter Tryz.func248,Tryz.ntmps248;go_wp2_with fail
     go_loop [24] (fun i=>∃k:Nat,k≤s.size∧i= .int .i64 k∧Hid (∀j:Nat,j < k→(fun c:UInt8=>gW c.toNat) (s.data.toList.getD j 0)=true)) (fun i=>s.size - (intOf i).toNat)
     case atStart=>exact ⟨0,Nat.zero_le _,rfl,fun j h=>by omega⟩
     case round=>
      obtain ⟨k,t,rfl,n⟩:=hrel
      by_cases a:k < s.size
      ·have o:(k:Int) < (s.size:Int):=by omega
       have g:Hid (s.data.toList.getD k 0=s[k]):=kg s k a
       by_cases u:(s[k].toNat:Int) < 48
       ·have d:Hid ((fun c:UInt8=>gW c.toNat) s[k]=false):=Lib.hid (by simp only [gW];rw [decide_eq_false (by omega)];rfl);go_wp2_with fail
        go_ret;exact ⟨cA (by rw [b.out];exact (pH (p:=fun c:UInt8=>gW c.toNat) (by rw [aG];exact a) (by rw [g.out];exact d.out)).symm),rfl⟩
       ·by_cases r:(57:Int) < (s[k].toNat:Int)
        ·have d:Hid ((fun c:UInt8=>gW c.toNat) s[k]=false):=Lib.hid (by simp only [gW];rw [decide_eq_false (p:=(s[k].toNat:Int)≤57) (by omega),Bool.and_false]);go_wp2_with fail
         go_ret;exact ⟨cA (by rw [b.out];exact (pH (p:=fun c:UInt8=>gW c.toNat) (by rw [aG];exact a) (by rw [g.out];exact d.out)).symm),rfl⟩
        ·have d:Hid ((fun c:UInt8=>gW c.toNat) s[k]=true):=Lib.hid (by simp only [gW];rw [decide_eq_true (by omega),decide_eq_true (by omega)];rfl);go_wp2_with fail
         exact ⟨⟨k+1,by omega,by go_num,Lib.hid (pk (p:=fun c:UInt8=>gW c.toNat) n.out g.out d.out)⟩,by simp [intOf];omega⟩
      ·go_wp2_with fail
       go_ret;exact ⟨cA (by rw [b.out];exact (wI (p:=fun c:UInt8=>gW c.toNat) (fun j h=>n.out j (by rw [aG] at h;omega))).symm),rfl⟩
def Dp (l:List UInt8):Nat:=l.foldl (fun n c=>10 * n+(c.toNat - 48)) 0
theorem l9:∀(l:List UInt8) (a:Nat),(∀c∈l,gW c.toNat=true)→Lib.decFrom a l=some (l.foldl (fun n c=>10 * n+(c.toNat - 48)) a)
 | [],a,_=>by simp [Lib.decFrom]
 | c::l,a,h=>by
  have b:=h c (List.mem_cons_self ..);unfold gW at b;simp only [Bool.and_eq_true,decide_eq_true_eq] at b;have d:Lib.digitVal c=some (c.toNat - 48):=by unfold Lib.digitVal;rw [if_pos (by omega)]
  rw [Lib.decFrom,d,List.foldl_cons];show Lib.decFrom (a * 10+(c.toNat - 48)) l=_;rw [l9 l _ (fun x e=>h x (List.mem_cons_of_mem _ e)),Nat.mul_comm]
theorem qD {l:List UInt8} (h:og l=true):(1≤l.length∧l.length≤9)∧∀c∈l,gW c.toNat=true:=by
 unfold og at h;simp only [Bool.and_eq_true,decide_eq_true_eq,List.all_eq_true] at h;exact ⟨⟨h.1.1.1,h.1.1.2⟩,h.2⟩
theorem yA {l:List UInt8} (h:og l=true):Lib.atoi l=some ((Dp l:Nat):Int):=by
 obtain ⟨⟨d,_⟩,b⟩:=qD h
 cases l with
 | nil=>simp at d
 | cons c l=>
  have a:=b c (List.mem_cons_self ..);unfold gW at a;simp only [Bool.and_eq_true,decide_eq_true_eq] at a;have e:(c == 45)=false:=by rw [beq_eq_false_iff_ne];rintro rfl;simp at a
  have f:(c == 43)=false:=by rw [beq_eq_false_iff_ne];rintro rfl;simp at a
  unfold Lib.atoi;simp only [e,f,Bool.false_eq_true,if_false];unfold Lib.decNat;rw [show (c::l).isEmpty=false from rfl];simp only [Bool.false_eq_true,if_false];rw [l9 _ _ b];rfl
def kk (l:List UInt8):Option Nat:=
 if l=[] then some 0 else match eE l [32,83,73,90,69,61] with | some d=>if og d then some (Dp d) else none | none=>none
def Gl (o:Option Nat):Value:=
 match o with
 | some n=> .tuple #[.int .i64 (n:Int),.bool true]
 | none=> .tuple #[.int .i64 0,.bool false]
theorem uo {W:World} {e:TypeId} {x:ByteArray}:Below W.heap.size W (Lib.bytesWorld W e x):=
 ⟨by simp [Lib.bytesWorld,World.freeze,World.alloc,World.drew, -World.alloc_eq, -World.drew_eq],by simp [Lib.bytesWorld,World.freeze,World.alloc,World.drew, -World.alloc_eq, -World.drew_eq],by simp [Lib.bytesWorld,World.freeze,World.alloc,World.drew, -World.alloc_eq, -World.drew_eq],by rw [Lib.bytesWorld_size];omega,fun k a=>Lib.bytesWorld_at_old W e x k a⟩
theorem lZ {s p r:List UInt8} (h:eE s p=some r) (a:ee s):ee r∧r.length≤s.length:=by
 unfold eE at h
 split at h
 ·cases h
 ·split at h
  ·injection h with h;rw [←h];exact ⟨fun x b=>a x (List.mem_of_mem_drop b),by rw [List.length_drop];omega⟩
  ·cases h
theorem xR (l:List UInt8) (w:World) (s:l.length≤1048576) (k:ee l):
  Calls Tryz.prog 211 #[.string (bs l)] w fun e v=>e= .returned (Gl (kk l))∧Below w.heap.size w v:=by
 by_cases h:l=[]
 ·subst h;have q:Hid (kk []=some 0):=Lib.hid rfl;rw [show bs ([]:List UInt8)=⟨#[]⟩ from rfl];go_enter Tryz.func211,Tryz.ntmps211;go_wp2_with fail
  go_ret2
  exact ⟨by rw [q.out];rfl,Below.refl _ _⟩
 ·have u:((bs l).toList == [])=false:=by rw [beq_eq_false_iff_ne,ByteArray.toList_eq,aQ];exact h
  have a:=Lib.hid (jk l [32,83,73,90,69,61] w s (by decide) k (by unfold ee;decide));have f:Hid (kk l=match eE l [32,83,73,90,69,61] with | some d=>if og d then some (Dp d) else none | none=>none):=Lib.hid (by unfold kk;rw [if_neg h])
  cases c:eE l [32,83,73,90,69,61] with
  | none=>
   rw [c] at a f;have b:Hid (kk l=none):=Lib.hid f.out;clear c f h k;simp only [vB] at a;go_enter Tryz.func211,Tryz.ntmps211;go_wp2_with fail
   refine a.out.mono ?_;rintro e p ⟨rfl,rfl⟩;go_wp2_with fail
   go_ret2
   exact ⟨by rw [b.out];rfl,Below.refl _ _⟩
  | some d=>
   rw [c] at a f;have o:=lZ c k;simp only [vB] at a;have r:=aI d;have j:=Lib.hid (xC (bs d) w (by unfold maxLen;omega));rw [aQ] at j
   cases g:og d with
   | false=>
    rw [g] at j;have b:Hid (kk l=none):=Lib.hid (by rw [f.out];simp only [];rw [g];rfl);clear c f h k o g;go_enter Tryz.func211,Tryz.ntmps211;go_wp2_with fail
    refine a.out.mono ?_;rintro e p ⟨rfl,rfl⟩;go_wp2_with (first | (go_at_call 248;refine j.out.mono ?_;rintro e x ⟨rfl,rfl⟩) | fail)
    go_ret2
    exact ⟨by rw [b.out];rfl,Below.refl _ _⟩
   | true=>
    rw [g] at j;have b:Hid (kk l=some (Dp d)):=Lib.hid (by rw [f.out];simp only [];rw [g];rfl);have i:=Lib.hid (Tryz.strconv_Atoi (bs d) ((Dp d:Nat):Int) (by have:=(qD g).1;omega) (by rw [aQ];exact yA g) w);obtain ⟨n,m⟩:∃n,Dp d=n:=⟨_,rfl⟩;rw [m] at b i;clear c f h k o g m;go_enter Tryz.func211,Tryz.ntmps211;go_wp2_with fail
    refine a.out.mono ?_;rintro e p ⟨rfl,rfl⟩;go_wp2_with (first | (go_at_call 248;refine j.out.mono ?_;rintro e x ⟨rfl,rfl⟩) | fail)
    refine i.out.mono ?_;rintro e y ⟨rfl,t,rfl⟩;go_wp2_with fail
    go_quiet (fail)
    go_wp2_with fail
    go_ret2
    exact ⟨by rw [b.out];rfl,uo.trans (bw _ _ _)⟩
def jC (l:List UInt8):Nat→Nat
 | 0=>0
 | k+1=>jC l k+(gU (l.getD k 0)).getD 0 * 2 ^ (18 - 6 * k)
theorem yf (c:UInt8):(gU c).getD 0 < 64:=by
 cases h:gU c with
 | none=>decide
 | some k=>exact (dn h).1
theorem Aw (l:List UInt8) (k:Nat) (h:k≤4):∃m,jC l k=m * 2 ^ (24 - 6 * k)∧jC l k < 16777216:=by
 have b:=yf (l.getD 0 0);have c:=yf (l.getD 1 0);have d:=yf (l.getD 2 0);have e:=yf (l.getD 3 0);have a:k=0∨k=1∨k=2∨k=3∨k=4:=by omega
 rcases a with rfl | rfl | rfl | rfl | rfl
 ·exact ⟨0,by simp [jC],by simp [jC]⟩
 ·refine ⟨(gU (l.getD 0 0)).getD 0,?_,?_⟩ <;> simp only [jC] <;> omega
 ·refine ⟨(gU (l.getD 0 0)).getD 0 * 64+(gU (l.getD 1 0)).getD 0,?_,?_⟩ <;> simp only [jC] <;> omega
 ·refine ⟨((gU (l.getD 0 0)).getD 0 * 64+(gU (l.getD 1 0)).getD 0) * 64+(gU (l.getD 2 0)).getD 0,?_,?_⟩ <;> simp only [jC] <;> omega
 ·refine ⟨jC l 4,by omega,?_⟩
  simp only [jC];omega
theorem Iy (m q k:Nat) (b:q < 64) (f:k≤3) (d:m * 2 ^ (24 - 6 * k) < 16777216):
  bits BinOp.or IntKind.u32 ((m * 2 ^ (24 - 6 * k):Nat):Int) ((q:Int) * 2 ^ (18 - 6 * k) % 4294967296)=((m * 2 ^ (24 - 6 * k)+q * 2 ^ (18 - 6 * k):Nat):Int):=by
 have a:q * 2 ^ (18 - 6 * k) < 2 ^ (24 - 6 * k):=by
  rw [show 24 - 6 * k=6+(18 - 6 * k) by omega,Nat.pow_add]
  exact Nat.mul_lt_mul_of_pos_right b (Nat.pow_pos (by decide))
 have c:q * 2 ^ (18 - 6 * k) < 16777216:=by
  refine Nat.lt_of_lt_of_le a ?_;have:(16777216:Nat)=2 ^ 24:=rfl;rw [this];exact Nat.pow_le_pow_right (by decide) (by omega)
 have e:((q:Int) * 2 ^ (18 - 6 * k) % 4294967296)=((q * 2 ^ (18 - 6 * k):Nat):Int):=by
  rw [Int.natCast_mul,Int.natCast_pow];refine Int.emod_eq_of_lt ?_ ?_
  ·have:(0:Int)≤((q * 2 ^ (18 - 6 * k):Nat):Int):=Int.natCast_nonneg _;rw [Int.natCast_mul,Int.natCast_pow] at this;exact this
  ·have:((q * 2 ^ (18 - 6 * k):Nat):Int) < 4294967296:=by omega
   rw [Int.natCast_mul,Int.natCast_pow] at this;exact this
 rw [e,u32_or_nat _ _ (by omega) (by omega)]
 congr 1
 rw [←Nat.shiftLeft_eq m,Nat.shiftLeft_add_eq_or_of_lt a]
def jX (l:List UInt8) (w:World) (e:Ending) (w':World):Prop:=
 (if l.all (fun c=>(gU c).isSome) then e= .returned (.tuple #[.int .u32 (jC l l.length:Nat),.bool true]) else e= .returned (.tuple #[.int .u32 0,.bool false]))∧w'=w
theorem jX.yes {l:List UInt8} {w:World} {e:Ending} {a:World} (h:l.all (fun c=>(gU c).isSome)=true) (b:e= .returned (.tuple #[.int .u32 (jC l l.length:Nat),.bool true])) (d:a=w):jX l w e a:=⟨by rw [h];exact b,d⟩
theorem jX.no {l:List UInt8} {w:World} {e:Ending} {a:World} (h:l.all (fun c=>(gU c).isSome)=false) (b:e= .returned (.tuple #[.int .u32 0,.bool false])) (d:a=w):jX l w e a:=⟨by rw [h];exact b,d⟩
theorem lL (s:ByteArray) (w:World) (B:s.size≤4):
  Calls Tryz.prog 276 #[.string s] w (jX s.data.toList w):=by
 go_enter Tryz.func276,Tryz.ntmps276;go_wp2
 go_loop [4,10] (fun v i=>∃k V:Nat,k≤s.size∧i= .int .i64 k∧v= .int .u32 V∧Hid (jC s.data.toList k=V)∧Hid (∀j:Nat,j < k→(gU (s.data.toList.getD j 0)).isSome=true)) (fun _ i=>s.size - (intOf i).toNat)
 case atStart=>exact ⟨0,0,Nat.zero_le _,rfl,rfl,rfl,fun j r=>by omega⟩
 case round=>
  obtain ⟨k,V,z,rfl,rfl,f,l⟩:=hrel
  by_cases d:k < s.size
  ·have g:Hid (s.data.toList.getD k 0=s[k]):=kg s k d;obtain ⟨o,t⟩:∃o,gU s[k]=o:=⟨_,rfl⟩;have a:=Lib.hid t;clear t
   have u:(V:Int) < 16777216:=by
    obtain ⟨_,_,h⟩:=Aw s.data.toList k (by omega);rw [f.out] at h;omega
   have y:(k:Int)≤3:=by omega
   go_wp2_with fail
   refine (qZ _ _).mono ?_;rintro e C ⟨rfl,rfl⟩;rw [a.out]
   cases o with
   | none=>
    simp only [Option.getD_none,Option.isSome_none];go_wp2_with fail
    go_ret2
    exact jX.no (pH (p:=fun c=>(gU c).isSome) (k:=k) (by rw [aG];exact d) (by rw [g.out,a.out];rfl)) rfl rfl
   | some q=>
    have A:(q:Int) < 64:=by have:=(dn a.out).1;omega
    simp only [Option.getD_some,Option.isSome_some];go_wp2_with fail
    refine ⟨⟨k+1,jC s.data.toList (k+1),by omega,by go_num,?_,rfl,pk (p:=fun c=>(gU c).isSome) l.out g.out (by rw [a.out];rfl)⟩,by simp [intOf];omega⟩
    obtain ⟨m,n,x⟩:=Aw s.data.toList k (by omega);rw [jC,g.out,a.out,Option.getD_some,←f.out,n,Iy m q k (by omega) (by omega) (by rw [←n];exact x)]
  ·have b:Hid (k=s.data.toList.length):=by
    show _=_;rw [aG];omega
   go_wp2
   go_ret2
   exact jX.yes (wI (p:=fun c=>(gU c).isSome) (fun j r=>l.out j (by rw [b.out];exact r))) (by rw [←b.out,f.out];rfl) rfl
def dU (o:Option (List UInt8)) (w:World) (e:Ending) (w':World):Prop:=
 (match o with | some g=>e= .returned (.tuple #[.string ⟨g.toArray⟩,.bool true]) | none=>e= .returned (.tuple #[.string ⟨#[]⟩,.bool false]))∧Below w.heap.size w w'
theorem dU.yes {o:Option (List UInt8)} {w:World} {e:Ending} {a:World} (g:List UInt8) (h:o=some g) (b:e= .returned (.tuple #[.string ⟨g.toArray⟩,.bool true])) (c:Below w.heap.size w a):dU o w e a:=by subst h;exact ⟨b,c⟩
theorem dU.no {o:Option (List UInt8)} {w:World} {e:Ending} {a:World} (h:o=none) (b:e= .returned (.tuple #[.string ⟨#[]⟩,.bool false])) (c:Below w.heap.size w a):dU o w e a:=by subst h;exact ⟨b,c⟩
theorem om (w:World) (W n a:Nat) (e:W < 16777216) (f:n≤3):
  (convert 114 9 (.slice (some ⟨w.heap.size,0,none⟩) n a)).run Tryz.prog (w.alloc (.cells #[.int .u8 ((W:Int) / 65536),.int .u8 ((W:Int) / 256 % 256),.int .u8 ((W:Int) % 256)] 300))= .ok (.string ⟨([qQ (W / 65536),qQ (W / 256),qQ W].take n).toArray⟩) (w.alloc (.cells #[.int .u8 ((W:Int) / 65536),.int .u8 ((W:Int) / 256 % 256),.int .u8 ((W:Int) % 256)] 300)):=by
 refine nV _ w.heap.size a n _ (by simp;omega) (fun j d=>?_);have c:∀i:Nat,(w.alloc (.cells #[.int .u8 ((W:Int) / 65536),.int .u8 ((W:Int) / 256 % 256),.int .u8 ((W:Int) % 256)] 300)).cell? ⟨w.heap.size,i,none⟩=#[Value.int .u8 ((W:Int) / 65536),.int .u8 ((W:Int) / 256 % 256),.int .u8 ((W:Int) % 256)][i]? :=fun i=>World.cell?_alloc_mark w _ 300 (0,0) i;rw [c j,List.getD_eq_getElem?_getD,List.getElem?_take_of_lt d];have b:j=0∨j=1∨j=2:=by omega
 rcases b with rfl | rfl | rfl
 ·show some (Value.int .u8 ((W:Int) / 65536))=some (.int .u8 ((qQ (W / 65536)).toNat:Int));rw [dX,show (((W / 65536) % 256:Nat):Int)=(W:Int) / 65536 by omega]
 ·show some (Value.int .u8 ((W:Int) / 256 % 256))=some (.int .u8 ((qQ (W / 256)).toNat:Int));rw [dX,show (((W / 256) % 256:Nat):Int)=(W:Int) / 256 % 256 by omega]
 ·show some (Value.int .u8 ((W:Int) % 256))=some (.int .u8 ((qQ W).toNat:Int));rw [dX,show ((W % 256:Nat):Int)=(W:Int) % 256 by omega]
theorem ud {s:ByteArray} {w:World} (d:s.size≤4) (W:Nat) (h:s.data.toList.all (fun c=>(gU c).isSome)=true) (b:jC s.data.toList s.data.toList.length=W):
  Calls Tryz.prog 276 #[.string s] w fun e f=>e= .returned (.tuple #[.int .u32 W,.bool true])∧f=w:=by
 refine (lL s w d).mono ?_;rintro e g ⟨a,rfl⟩;rw [h] at a;exact ⟨by rw [←b];exact a,rfl⟩
theorem yh {s:ByteArray} {w:World} (b:s.size≤4) (h:s.data.toList.all (fun c=>(gU c).isSome)=false):
  Calls Tryz.prog 276 #[.string s] w fun e d=>e= .returned (.tuple #[.int .u32 0,.bool false])∧d=w:=by
 refine (lL s w b).mono ?_;rintro e f ⟨a,rfl⟩;rw [h] at a;exact ⟨a,rfl⟩
theorem sE (s:ByteArray) (w:World) (d:s.size=4) (a:stood s.data.toList=1) (b:(s.extract 0 2).data.toList.all (fun c=>(gU c).isSome)=false):
  Calls Tryz.prog 247 #[.string s] w (dU none w):=by
 have f:=Lib.hid b;clear b;have i:Hid ((s.extract 0 2).size≤4):=by show _≤_;simp;omega
 have h:=Lib.hid a;clear a;have g:=Lib.hid d;have j:(4:Int)≤(s.size:Int):=by omega
 clear d;go_enter Tryz.func247,Tryz.ntmps247;go_wp2_with fail
 refine (gd s _ (by unfold maxLen;have:=g.out;omega)).mono ?_;rintro e k ⟨rfl,rfl⟩;rw [h.out];go_wp2_with fail
 refine (yh (s:=s.extract 0 2) i.out f.out).mono ?_;rintro e l ⟨rfl,rfl⟩;go_wp2_with fail
 go_ret2
 exact dU.no rfl rfl (Below.refl _ _)
theorem zi (s:ByteArray) (w:World) (j:s.size=4) (b:stood s.data.toList=1) (g:(s.extract 0 2).data.toList.all (fun c=>(gU c).isSome)=true) (W:Nat) (k:jC (s.extract 0 2).data.toList (s.extract 0 2).data.toList.length=W) (v:W < 16777216) (o:Option (List UInt8)) (h:o=(if W / 256 % 256=0∧W % 256=0 then some [qQ (W / 65536)] else none)):
  Calls Tryz.prog 247 #[.string s] w (dU o w):=by
 have d:=Lib.hid h;have n:=Lib.hid g;have r:=Lib.hid k;clear g k h;have u:Hid ((s.extract 0 2).size≤4):=by show _≤_;simp;omega
 have f:=om w W 1 3 v (by decide);have q:=Lib.hid b;clear b;have p:=Lib.hid j;have x:(4:Int)≤(s.size:Int):=by omega
 clear j;go_enter Tryz.func247,Tryz.ntmps247;go_wp2_with fail
 refine (gd s _ (by unfold maxLen;have:=p.out;omega)).mono ?_;rintro e y ⟨rfl,rfl⟩;rw [q.out];go_wp2_with fail
 refine (ud (s:=s.extract 0 2) u.out W n.out r.out).mono ?_;rintro e z ⟨rfl,rfl⟩
 cases l:(((W:Int) / 256 % 256) != 0) with
 | true=>
  have a:Hid (¬(W / 256 % 256=0∧W % 256=0)):=by
   show ¬_;have:¬(W:Int) / 256 % 256=0:=by simpa using l
   omega
  go_wp2_with fail
  go_loop [34] (fun i=>i= .int .i64 0) (fun i=>1 - (intOf i).toNat)
  case atStart=>rfl
  case round=>
   subst hrel;go_wp2
   go_ret2
   exact dU.no (d.out.trans (if_neg a.out)) rfl ((Below.refl _ _).alloc (Nat.le_refl _) _)
 | false=>
  have t:Hid ((W:Int) / 256 % 256=0):=by
   show (W:Int) / 256 % 256=0;simpa using l
  cases m:(((W:Int) % 256) != 0) with
  | true=>
   have a:Hid (¬(W / 256 % 256=0∧W % 256=0)):=by
    show ¬_;have:¬(W:Int) % 256=0:=by simpa using m
    omega
   go_wp2_with fail
   go_loop [34] (fun i=>i= .int .i64 0∨i= .int .i64 1) (fun i=>2 - (intOf i).toNat)
   case atStart=>exact Or.inl rfl
   case round=>
    rcases hrel with rfl | rfl
    ·go_wp2
     go_round
     case rel=>exact Or.inr rfl
     case measure=>decide
    ·go_wp2
     go_ret2
     exact dU.no (d.out.trans (if_neg a.out)) rfl ((Below.refl _ _).alloc (Nat.le_refl _) _)
  | false=>
   have a:Hid (W / 256 % 256=0∧W % 256=0):=by
    show _∧_;have:(W:Int) % 256=0:=by simpa using m
    have:=t.out;omega
   go_wp2_with fail
   go_loop [34] (fun i=>i= .int .i64 0∨i= .int .i64 1∨i= .int .i64 2) (fun i=>2 - (intOf i).toNat)
   case atStart=>exact Or.inl rfl
   case round=>
    rcases hrel with rfl | rfl | rfl
    ·go_wp2
     go_round
     case rel=>exact Or.inr (Or.inl rfl)
     case measure=>decide
    ·go_wp2
     go_round
     case rel=>exact Or.inr (Or.inr rfl)
     case measure=>decide
    ·go_wp2
     go_ret2
     exact dU.yes _ (d.out.trans (if_pos a.out)) rfl ((Below.refl _ _).alloc (Nat.le_refl _) _)
theorem oa (s:ByteArray) (w:World) (d:s.size=4) (a:stood s.data.toList=2) (b:(s.extract 0 3).data.toList.all (fun c=>(gU c).isSome)=false):
  Calls Tryz.prog 247 #[.string s] w (dU none w):=by
 have f:=Lib.hid b;clear b;have i:Hid ((s.extract 0 3).size≤4):=by show _≤_;simp;omega
 have h:=Lib.hid a;clear a;have g:=Lib.hid d;have j:(4:Int)≤(s.size:Int):=by omega
 clear d;go_enter Tryz.func247,Tryz.ntmps247;go_wp2_with fail
 refine (gd s _ (by unfold maxLen;have:=g.out;omega)).mono ?_;rintro e k ⟨rfl,rfl⟩;rw [h.out];go_wp2_with fail
 refine (yh (s:=s.extract 0 3) i.out f.out).mono ?_;rintro e l ⟨rfl,rfl⟩;go_wp2_with fail
 go_ret2
 exact dU.no rfl rfl (Below.refl _ _)
theorem zj (s:ByteArray) (w:World) (j:s.size=4) (a:stood s.data.toList=2) (g:(s.extract 0 3).data.toList.all (fun c=>(gU c).isSome)=true) (W:Nat) (k:jC (s.extract 0 3).data.toList (s.extract 0 3).data.toList.length=W) (t:W < 16777216) (o:Option (List UInt8)) (h:o=(if W % 256=0 then some [qQ (W / 65536),qQ (W / 256)] else none)):
  Calls Tryz.prog 247 #[.string s] w (dU o w):=by
 have f:=Lib.hid h;have m:=Lib.hid g;have q:=Lib.hid k;clear g k h;have r:Hid ((s.extract 0 3).size≤4):=by show _≤_;simp;omega
 have d:=om w W 2 3 t (by decide);have p:=Lib.hid a;clear a;have n:=Lib.hid j;have u:(4:Int)≤(s.size:Int):=by omega
 clear j;go_enter Tryz.func247,Tryz.ntmps247;go_wp2_with fail
 refine (gd s _ (by unfold maxLen;have:=n.out;omega)).mono ?_;rintro e v ⟨rfl,rfl⟩;rw [p.out];go_wp2_with fail
 refine (ud (s:=s.extract 0 3) r.out W m.out q.out).mono ?_;rintro e x ⟨rfl,rfl⟩
 cases l:(((W:Int) % 256) != 0) with
 | true=>
  have b:Hid (¬W % 256=0):=by
   show ¬_;have:¬(W:Int) % 256=0:=by simpa using l
   omega
  go_wp2_with fail
  go_loop [34] (fun i=>i= .int .i64 0) (fun i=>1 - (intOf i).toNat)
  case atStart=>rfl
  case round=>
   subst hrel;go_wp2
   go_ret2
   exact dU.no (f.out.trans (if_neg b.out)) rfl ((Below.refl _ _).alloc (Nat.le_refl _) _)
 | false=>
  have b:Hid (W % 256=0):=by
   show W % 256=0;have:(W:Int) % 256=0:=by simpa using l
   omega
  go_wp2_with fail
  go_loop [34] (fun i=>i= .int .i64 0∨i= .int .i64 1) (fun i=>1 - (intOf i).toNat)
  case atStart=>exact Or.inl rfl
  case round=>
   rcases hrel with rfl | rfl
   ·go_wp2
    go_round
    case rel=>exact Or.inr rfl
    case measure=>decide
   ·go_wp2
    go_ret2
    exact dU.yes _ (f.out.trans (if_pos b.out)) rfl ((Below.refl _ _).alloc (Nat.le_refl _) _)
theorem kW (s:ByteArray) (w:World) (d:s.size=4) (a:stood s.data.toList=3) (b:(s.extract 0 4).data.toList.all (fun c=>(gU c).isSome)=false):
  Calls Tryz.prog 247 #[.string s] w (dU none w):=by
 have f:=Lib.hid b;clear b;have i:Hid ((s.extract 0 4).size≤4):=by show _≤_;simp;omega
 have h:=Lib.hid a;clear a;have g:=Lib.hid d;have j:(4:Int)≤(s.size:Int):=by omega
 clear d;go_enter Tryz.func247,Tryz.ntmps247;go_wp2_with fail
 refine (gd s _ (by unfold maxLen;have:=g.out;omega)).mono ?_;rintro e k ⟨rfl,rfl⟩;rw [h.out];go_wp2_with fail
 refine (yh (s:=s.extract 0 4) i.out f.out).mono ?_;rintro e l ⟨rfl,rfl⟩;go_wp2_with fail
 go_ret2
 exact dU.no rfl rfl (Below.refl _ _)
theorem zk (s:ByteArray) (w:World) (g:s.size=4) (a:stood s.data.toList=3) (d:(s.extract 0 4).data.toList.all (fun c=>(gU c).isSome)=true) (W:Nat) (h:jC (s.extract 0 4).data.toList (s.extract 0 4).data.toList.length=W) (q:W < 16777216) (o:Option (List UInt8)) (f:o=(some [qQ (W / 65536),qQ (W / 256),qQ W])):
  Calls Tryz.prog 247 #[.string s] w (dU o w):=by
 have k:=Lib.hid f;have j:=Lib.hid d;have n:=Lib.hid h;clear d h f;have p:Hid ((s.extract 0 4).size≤4):=by show _≤_;simp;omega
 have b:=om w W 3 3 q (by decide);have m:=Lib.hid a;clear a;have l:=Lib.hid g;have r:(4:Int)≤(s.size:Int):=by omega
 clear g;go_enter Tryz.func247,Tryz.ntmps247;go_wp2_with fail
 refine (gd s _ (by unfold maxLen;have:=l.out;omega)).mono ?_;rintro e t ⟨rfl,rfl⟩;rw [m.out];go_wp2_with fail
 refine (ud (s:=s.extract 0 4) p.out W j.out n.out).mono ?_;rintro e u ⟨rfl,rfl⟩;go_wp2_with fail
 go_loop [34] (fun i=>i= .int .i64 0) (fun _=>0)
 case atStart=>rfl
 case round=>
  subst hrel;go_wp2
  go_ret2
  exact dU.yes _ k.out rfl ((Below.refl _ _).alloc (Nat.le_refl _) _)
theorem IB (a b c d:UInt8):stood [a,b,c,d]=if d=61 then (if c=61 then 1 else 2) else 3:=by
 have f:Lib.hasSuffix [a,b,c,d] [61,61]=(d == 61 && c == 61):=by
  simp only [Lib.hasSuffix,List.isSuffixOf,List.reverse_cons,List.reverse_nil,List.nil_append,List.cons_append,List.isPrefixOf,Bool.and_true];rw [BEq.comm (a:=(61:UInt8)) (b:=d),BEq.comm (a:=(61:UInt8)) (b:=c)]
 have g:Lib.hasSuffix [a,b,c,d] [61]=(d == 61):=by
  simp only [Lib.hasSuffix,List.isSuffixOf,List.reverse_cons,List.reverse_nil,List.nil_append,List.cons_append,List.isPrefixOf,Bool.and_true];rw [BEq.comm (a:=(61:UInt8)) (b:=d)]
 unfold stood;rw [f,g]
 by_cases e:d=61
 ·by_cases h:c=61 <;> simp [e,h]
 ·simp [e]
theorem uR (s:ByteArray) (a b c d:UInt8) (w:World) (h:s.data.toList=[a,b,c,d]):
  Calls Tryz.prog 247 #[.string s] w (dU (EH a b c d) w):=by
 have j:s.size=4:=by rw [←aG,h];rfl
 have v:(s.extract 0 2).data.toList=[a,b]:=by rw [Lib.extract_data,h];rfl
 have n:(s.extract 0 3).data.toList=[a,b,c]:=by rw [Lib.extract_data,h];rfl
 have l:(s.extract 0 4).data.toList=[a,b,c,d]:=by rw [Lib.extract_data,h];rfl
 have e:=IB a b c d
 by_cases o:d=61
 ·rw [if_pos o] at e
  by_cases x:c=61
  ·rw [if_pos x] at e;have u:EH a b c d=g1 a b:=by unfold EH;rw [if_pos o,if_pos x]
   rw [u]
   cases f:gU a with
   | none=>
    have:g1 a b=none:=by unfold g1;rw [f]
    rw [this];exact sE s w j (by rw [h,e]) (by rw [v];simp [f])
   | some p=>
    cases g:gU b with
    | none=>
     have:g1 a b=none:=by unfold g1;rw [f,g]
     rw [this];exact sE s w j (by rw [h,e]) (by rw [v];simp [f,g])
    | some q=>
     have y:=(dn f).1;have z:=(dn g).1;refine zi s w j (by rw [h,e]) (by rw [v];simp [f,g]) (p * 262144+q * 4096) ?_ (by omega) _ ?_
     ·rw [v];show jC [a,b] 2=_;simp only [jC];show 0+(gU a).getD 0 * 262144+(gU b).getD 0 * 4096=_;rw [f,g];simp
     ·unfold g1;rw [f,g];simp only
      by_cases k:q % 16=0
      ·rw [if_pos k,if_pos (by omega),show (p * 262144+q * 4096) / 65536=p * 4+q / 16 by omega]
      ·rw [if_neg k,if_neg (by omega)]
  ·rw [if_neg x] at e;have u:EH a b c d=g2 a b c:=by unfold EH;rw [if_pos o,if_neg x]
   rw [u]
   cases f:gU a with
   | none=>
    have:g2 a b c=none:=by unfold g2;rw [f]
    rw [this];exact oa s w j (by rw [h,e]) (by rw [n];simp [f])
   | some p=>
    cases g:gU b with
    | none=>
     have:g2 a b c=none:=by unfold g2;rw [f,g]
     rw [this];exact oa s w j (by rw [h,e]) (by rw [n];simp [f,g])
    | some q=>
     cases i:gU c with
     | none=>
      have:g2 a b c=none:=by unfold g2;rw [f,g,i]
      rw [this];exact oa s w j (by rw [h,e]) (by rw [n];simp [f,g,i])
     | some r=>
      have y:=(dn f).1;have z:=(dn g).1;have A:=(dn i).1;refine zj s w j (by rw [h,e]) (by rw [n];simp [f,g,i]) (p * 262144+q * 4096+r * 64) ?_ (by omega) _ ?_
      ·rw [n];show jC [a,b,c] 3=_;simp only [jC];show 0+(gU a).getD 0 * 262144+(gU b).getD 0 * 4096+(gU c).getD 0 * 64=_;rw [f,g,i];simp
      ·unfold g2;rw [f,g,i];simp only
       by_cases k:r % 4=0
       ·rw [if_pos k,if_pos (by omega),show (p * 262144+q * 4096+r * 64) / 65536=p * 4+q / 16 by omega,AD ((p * 262144+q * 4096+r * 64) / 256) (qQ (q % 16 * 16+r / 4)) (by rw [dX];omega)]
       ·rw [if_neg k,if_neg (by omega)]
 ·rw [if_neg o] at e;have u:EH a b c d=g3 a b c d:=by unfold EH;rw [if_neg o]
  rw [u]
  cases f:gU a with
  | none=>
   have:g3 a b c d=none:=by unfold g3;rw [f]
   rw [this];exact kW s w j (by rw [h,e]) (by rw [l];simp [f])
  | some p=>
   cases g:gU b with
   | none=>
    have:g3 a b c d=none:=by unfold g3;rw [f,g]
    rw [this];exact kW s w j (by rw [h,e]) (by rw [l];simp [f,g])
   | some q=>
    cases i:gU c with
    | none=>
     have:g3 a b c d=none:=by unfold g3;rw [f,g,i]
     rw [this];exact kW s w j (by rw [h,e]) (by rw [l];simp [f,g,i])
    | some r=>
     cases m:gU d with
     | none=>
      have:g3 a b c d=none:=by unfold g3;rw [f,g,i,m]
      rw [this];exact kW s w j (by rw [h,e]) (by rw [l];simp [f,g,i,m])
     | some t=>
      have y:=(dn f).1;have z:=(dn g).1;have A:=(dn i).1;have B:=(dn m).1;refine zk s w j (by rw [h,e]) (by rw [l];simp [f,g,i,m]) (p * 262144+q * 4096+r * 64+t) ?_ (by omega) _ ?_
      ·rw [l];show jC [a,b,c,d] 4=_;simp only [jC];show 0+(gU a).getD 0 * 262144+(gU b).getD 0 * 4096+(gU c).getD 0 * 64+(gU d).getD 0 * 1=_;rw [f,g,i,m];simp
      ·unfold g3;rw [f,g,i,m];simp only;rw [show (p * 262144+q * 4096+r * 64+t) / 65536=p * 4+q / 16 by omega,AD ((p * 262144+q * 4096+r * 64+t) / 256) (qQ (q % 16 * 16+r / 4)) (by rw [dX];omega),AD (p * 262144+q * 4096+r * 64+t) (qQ (r % 4 * 64+t)) (by rw [dX];omega)]
theorem rl (B b:Nat) (bs:List Value) (s:ByteArray) (w:World) (h:Lib.IsBuilderF 133 5 B b bs w) (a:bs.length+s.size≤140737488355328) (c:B≤w.heap.size):
  Calls Tryz.prog 96 #[.pointer (some ⟨b,0,none⟩),.string s] w fun e d=>e= .returned (.tuple #[.int .i64 s.size,.nilIface])∧(Lib.BuilderAtF 133 5 B b (.pointer (some ⟨b,0,none⟩)) (bs++Lib.strCells s) d∧Below B w d∧Lib.OthersKept 5 (some b) w d):=
 Any.Builder_WriteString_k {Tryz.lays159 with} Tryz.Builder_Extra_159 B b bs s w h a c
theorem oH (B b:Nat) (l:List UInt8) (w:World) (h:Lib.IsBuilderF 133 5 B b (Lib.byteCells l) w) (a:B≤w.heap.size):
  Calls Tryz.prog 64 #[.pointer (some ⟨b,0,none⟩)] w fun e c=>e= .returned (.string ⟨l.toArray⟩)∧(Lib.IsBuilderF 133 5 B b (Lib.byteCells l) c∧Below B w c∧Lib.OthersKept 5 (some b) w c):=
 Any.Builder_String_any_k Tryz.lays169 Tryz.Builder_Extra_169 B b l w h a
theorem nr {T e:TypeId} {B b:Nat} {p:Value} {bs:List Value} {W g:World} (h:Lib.BuilderAtF T e B b p bs W) (a:Below W.heap.size W g):Lib.BuilderAtF T e B b p bs g:=by
 have d:=h.lt;obtain ⟨i,v,l,c,f⟩:=h;exact ⟨i,v,(a.block b d).trans l,c.kept (row:=none) ⟨a.os,a.tape,a.output,a.size,fun k j _=>a.block k j⟩ (Classical.em _),f⟩
theorem qW {T e:TypeId} {B b:Nat} {bs:List Value} {W a:World} (h:Lib.IsBuilderF T e B b bs W) (c:Below W.heap.size W a):Lib.IsBuilderF T e B b bs a:=
 h.elim (fun x=> .inl (nr x c)) (fun x=> .inr (nr x c))
def jH (o:Option (List UInt8)) (w:World) (e:Ending) (w':World):Prop:=
 (match o with | some g=>e= .returned (.tuple #[.string ⟨g.toArray⟩,.bool true]) | none=>e= .returned (.tuple #[.string ⟨#[]⟩,.bool false]))∧Below w.heap.size w w'
theorem jH.yes {o:Option (List UInt8)} {w:World} {e:Ending} {a:World} (g:List UInt8) (h:o=some g) (b:e= .returned (.tuple #[.string ⟨g.toArray⟩,.bool true])) (c:Below w.heap.size w a):jH o w e a:=by subst h;exact ⟨b,c⟩
theorem jH.no {o:Option (List UInt8)} {w:World} {e:Ending} {a:World} (h:o=none) (b:e= .returned (.tuple #[.string ⟨#[]⟩,.bool false])) (c:Below w.heap.size w a):jH o w e a:=by subst h;exact ⟨b,c⟩
def Ho (v:Value):Nat:=match v with | .string t=>t.size | _=>0
def GJ (l:List UInt8) (w:World) (s:Value) (w':World):Prop:=
 ∃(t:ByteArray) (acc:List UInt8),s= .string t∧t.size % 4=0∧acc.length+t.size≤l.length∧jZ l=(jZ t.data.toList).map (acc++·)∧Lib.IsBuilderF 133 5 w.heap.size w.heap.size (Lib.byteCells acc) w'∧Below w.heap.size w w'∧w.heap.size < w'.heap.size
theorem oO:∀l:List UInt8,l.length % 4≠0→jZ l=none
 | [],h=>absurd rfl h
 | [_],_=>rfl
 | [_,_],_=>rfl
 | [_,_,_],_=>rfl
 | a::b::c::d::r,h=>by
  have:=oO r (by simp at h;omega);rw [jZ]
  split
  ·rfl
  ·split
   ·rfl
   ·rw [this]
theorem G3 {a b c d:UInt8} {g:List UInt8} (h:EH a b c d=some g):1≤g.length∧g.length≤3:=by
 unfold EH at h
 split at h
 ·split at h
  ·have:=(IV h).2;omega
  ·have:=(IW h).2;omega
 ·have:=(IX h).2;omega
theorem qH (s:ByteArray) (w:World) (hs:s.size≤140737488355328):
  Calls Tryz.prog 209 #[.string s] w (jH (jZ s.data.toList) w):=by
 obtain ⟨O,L⟩:∃O,jZ s.data.toList=O:=⟨_,rfl⟩;rw [L];have I:=Lib.hid L;clear L
 cases W:(((s.size:Int) % 4) != 0) with
 | true=>
  have q:Hid (O=none):=by
   show _=_;rw [←I.out];refine oO _ ?_;have:¬(s.size:Int) % 4=0:=by simpa using W
   rw [aG];omega
  go_enter Tryz.func209,Tryz.ntmps209;go_wp2
  go_ret2
  exact jH.no q.out rfl (Below.refl _ _)
 | false=>
  have S:(s.size:Int) % 4=0:=by simpa using W
  have Y:Hid (s.size % 4=0):=by show s.size % 4=0;omega
  clear S;go_enter Tryz.func209,Tryz.ntmps209;go_wp2
  go_loopw [0] (fun t w'=>GJ s.data.toList w t w') (fun t _=>Ho t)
  case atStart=>exact ⟨s,[],rfl,Y.out,by rw [aG];simp,by simp,Lib.IsBuilderF.of (Lib.fresh_isBuilder 133 5 w),(Below.refl _ _).alloc (Nat.le_refl _) _,by simp⟩
  case round=>
   obtain ⟨t,f,rfl,a4,C,l,V,k,n⟩:=hrel;rw [aG] at C;rw [I.out] at l;have H:=Lib.hid l;have F:=Lib.hid V;clear l V
   by_cases Z:t.size=0
   ·have X:Hid (O=some f):=by
     show _=_;rw [H.out]
     have:t.data.toList=[]:=by
      rw [←List.length_eq_zero_iff,aG];exact Z
     rw [this];simp [jZ]
    have N:=Nat.le_of_lt n;go_wp2_with fail
    refine (oH _ _ f _ F.out N).mono ?_;rintro e T ⟨rfl,_,j,_⟩;go_wp2_with fail
    go_ret2
    exact jH.yes f X.out rfl (k.trans j)
   ·have h4:4≤t.size:=by omega
    obtain ⟨a,b,c,d,r,B⟩:∃a b c d r,t.data.toList=a::b::c::d::r:=by
     have v:4≤t.data.toList.length:=by rw [aG];exact h4
     match h:t.data.toList,v with
     | a::b::c::d::r,_=>exact ⟨a,b,c,d,r,rfl⟩
    have P:Hid ((t.extract 0 4).data.toList=[a,b,c,d]):=by
     show _=_;rw [Lib.extract_data,B];rfl
    have m:Hid ((t.extract 4 t.size).data.toList=r):=by
     show _=_;rw [Lib.extract_to_end,B];rfl
    have D:r.length+4=t.size:=by
     rw [←aG t,B];rfl
    have p:Hid (O=(match EH a b c d with | none=>none | some g=>if g.length < 3∧r≠[] then none else match jZ r with | none=>none | some y=>some (g++y):Option (List UInt8)).map (f++·)):=by
     show _=_;rw [H.out,B];rfl
    clear B H;obtain ⟨J,A⟩:∃J,EH a b c d=J:=⟨_,rfl⟩;have z:=Lib.hid A;clear A;have a0:(4:Int)≤(t.size:Int):=by omega
    go_wp2_with fail
    refine (uR (t.extract 0 4) a b c d _ P.out).mono ?_;rw [z.out];rintro e T ⟨E,j⟩
    cases J with
    | none=>
     simp only at E;subst E;have q:Hid (O=none):=by show _=_;rw [p.out,z.out];rfl
     go_wp2_with fail
     go_ret2
     exact jH.no q.out rfl (k.trans (j.mono (Nat.le_of_lt n)))
    | some g=>
     simp only at E;subst E;have a2:=G3 z.out;have Q:(⟨g.toArray⟩:ByteArray).size=g.length:=by simp [ByteArray.size]
     by_cases i:g.length < 3∧r≠[]
     ·have q:Hid (O=none):=by
       show _=_;rw [p.out,z.out];simp only;rw [if_pos i];rfl
      have a1:((g.length:Int) < 3):=by omega
      have a3:(0:Int) < (t.size:Int) - 4:=by
       have:1≤r.length:=by
        cases r with
        | nil=>exact absurd rfl i.2
        | cons _ _=>simp
       omega
      go_wp2_with fail
      go_ret2
      exact jH.no q.out rfl (k.trans (j.mono (Nat.le_of_lt n)))
     ·have q:Hid (O=(jZ r).map ((f++g)++·)):=by
       show _=_;rw [p.out,z.out];simp only;rw [if_neg i]
       cases jZ r with
       | none=>rfl
       | some y=>simp
      have u:(3:Int)≤(g.length:Int)∨((g.length:Int) < 3∧¬0 < t.size - 4):=by
       by_cases U:3≤g.length
       ·left;omega
       ·right
        refine ⟨by omega,?_⟩
        have:r=[]:=by
         cases r with
         | nil=>rfl
         | cons x y=>exact absurd ⟨by omega,by simp⟩ i
        rw [this] at D;simp at D;omega
      have G:=Lib.hid (qW F.out j);have a5:wr.heap.size≤T.heap.size:=j.size
      have R:Hid ((Lib.byteCells f).length+(⟨g.toArray⟩:ByteArray).size≤140737488355328):=by
       show _≤_;rw [Lib.byteCells_length,Q];omega
      have K:w.heap.size≤T.heap.size:=by omega
      clear i F
      rcases u with U | ⟨U,hz⟩
      all_goals
       go_wp2_with fail
       refine (rl _ _ (Lib.byteCells f) ⟨g.toArray⟩ _ G.out R.out K).mono ?_;rintro e w2 ⟨rfl,M,o,_⟩;go_wp2_with fail
       refine ⟨⟨t.extract 4 t.size,f++g,rfl,?_,?_,?_,?_,?_,?_⟩,?_⟩
       ·rw [←aG,m.out];omega
       ·rw [←aG (t.extract 4 t.size),m.out,aG];simp;omega
       ·rw [I.out,m.out,q.out]
       ·refine Or.inr ?_;have:Lib.byteCells (f++g)=Lib.byteCells f++Lib.strCells ⟨g.toArray⟩:=by simp [Lib.byteCells,Lib.strCells]
        rw [this];exact M
       ·exact (k.trans (j.mono (Nat.le_of_lt n))).trans o
       ·have:=o.size;omega
       ·show (t.extract 4 t.size).size < t.size;rw [←aG,m.out];omega
structure IH (w:World) (k:Nat):Prop where
 blk:w.heap[k]? =some (.cells #[.int .i64 0,.string ⟨#[]⟩,.int .i64 0,.string ⟨#[]⟩] 179 (0,0))
 c0:w.cell? ⟨k,0,none⟩=some (.int .i64 0)
 c1:w.cell? ⟨k,1,none⟩=some (.string ⟨#[]⟩)
 c2:w.cell? ⟨k,2,none⟩=some (.int .i64 0)
 c3:w.cell? ⟨k,3,none⟩=some (.string ⟨#[]⟩)
 f0:w.frozen? ⟨k,0,none⟩=false
 f1:w.frozen? ⟨k,1,none⟩=false
 f2:w.frozen? ⟨k,2,none⟩=false
 f3:w.frozen? ⟨k,3,none⟩=false
theorem qo {w:World} {k:Nat} (h:w.heap[k]? =some (.cells #[.int .i64 0,.string ⟨#[]⟩,.int .i64 0,.string ⟨#[]⟩] 179 (0,0))):IH w k:=
 ⟨h,by rw [Lib.cell_of_heap h];rfl,by rw [Lib.cell_of_heap h];rfl,by rw [Lib.cell_of_heap h];rfl,by rw [Lib.cell_of_heap h];rfl,Lib.frozen_of_heap h 0,Lib.frozen_of_heap h 1,Lib.frozen_of_heap h 2,Lib.frozen_of_heap h 3⟩
def qk (arg:List UInt8):nj:=
 match eE arg [80,76,65,73,78,32] with
 | some l=>(match jZ l with | some b=>⟨8,[],0,b⟩ | none=>hZ)
 | none=>hZ
theorem Dn:jZ []=some []:=rfl
theorem xP (arg:List UInt8) (w:World) (T:arg.length≤1048576) (A:ee arg):
  Calls Tryz.prog 154 #[.string (bs arg)] w fun e V=>e= .returned (iT (qk arg))∧Below w.heap.size w V:=by
 obtain ⟨r,m⟩:∃r:World,w.alloc (.cells #[.int .i64 0,.string ⟨#[]⟩,.int .i64 0,.string ⟨#[]⟩] 179)=r:=⟨_,rfl⟩;have G:Below w.heap.size w r:=by rw [←m];exact (Below.refl _ _).alloc (Nat.le_refl _) _
 have H:r.heap[w.heap.size]? =some (.cells #[.int .i64 0,.string ⟨#[]⟩,.int .i64 0,.string ⟨#[]⟩] 179 (0,0)):=by rw [←m];exact heap_alloc_new w _
 have c:=Lib.hid (jk arg [80,76,65,73,78,32] r T (by decide) A (by unfold ee;decide));have n:Hid (qk arg=match eE arg [80,76,65,73,78,32] with | some l=>(match jZ l with | some b=>⟨8,[],0,b⟩ | none=>hZ) | none=>hZ):=Lib.hid rfl;have f:=Lib.hid G;have q:=Lib.hid H;have p:=Lib.hid m;clear G H m
 cases g:eE arg [80,76,65,73,78,32] with
 | none=>
  rw [g] at c n;simp only [vB] at c;have i:Hid (qk arg=hZ):=Lib.hid n.out;have d:=Lib.hid (qH ⟨#[]⟩ r (by decide));clear g n A;go_enter Tryz.func154,Tryz.ntmps154;go_wp2_with fail
  rw [p.out];refine c.out.mono ?_;rintro e R ⟨rfl,rfl⟩;go_wp2_with fail
  refine d.out.mono ?_;intro e S s;rw [Dn] at s;obtain ⟨rfl,a⟩:=s;have t:=qo (ae a q.out);obtain ⟨o,I,J,K,L,M,N,O,P⟩:=t;have k:=Lib.hid o;have j:=Lib.hid (f.out.trans (a.mono f.out.size));clear o a d c;go_wp2_with fail
  obtain ⟨B,C,D,E,F⟩:=gN (x:= .int .i64 1) (y:= .string ⟨#[]⟩) (z:= .int .i64 0) (u:= .string ⟨#[]⟩) k.out;refine bodyPost_ret (v:= .agg #[.int .i64 1,.string ⟨#[]⟩,.int .i64 0,.string ⟨#[]⟩]) (by simp [results,Tryz.results154,go_sem,B,C,D,E]) rfl ?_;exact ⟨by rw [i.out];rfl,j.out.trans (F.below (Nat.le_refl _))⟩
 | some l=>
  rw [g] at c n;simp only [vB] at c;have Q:=lZ g A;have U:=aI l;have d:=Lib.hid (qH (bs l) r (by omega));rw [aQ] at d
  cases h:jZ l with
  | none=>
   rw [h] at d;have i:Hid (qk arg=hZ):=Lib.hid (by rw [n.out];simp only [];rw [h]);clear g n A Q h;go_enter Tryz.func154,Tryz.ntmps154;go_wp2_with fail
   rw [p.out];refine c.out.mono ?_;rintro e R ⟨rfl,rfl⟩;go_wp2_with fail
   refine d.out.mono ?_;intro e S s;obtain ⟨rfl,a⟩:=s;have t:=qo (ae a q.out);obtain ⟨o,I,J,K,L,M,N,O,P⟩:=t;have k:=Lib.hid o;have j:=Lib.hid (f.out.trans (a.mono f.out.size));clear o a d c;go_wp2_with fail
   obtain ⟨B,C,D,E,F⟩:=gN (x:= .int .i64 1) (y:= .string ⟨#[]⟩) (z:= .int .i64 0) (u:= .string ⟨#[]⟩) k.out;refine bodyPost_ret (v:= .agg #[.int .i64 1,.string ⟨#[]⟩,.int .i64 0,.string ⟨#[]⟩]) (by simp [results,Tryz.results154,go_sem,B,C,D,E]) rfl ?_;exact ⟨by rw [i.out];rfl,j.out.trans (F.below (Nat.le_refl _))⟩
  | some b=>
   rw [h] at d;have i:Hid (qk arg=⟨8,[],0,b⟩):=Lib.hid (by rw [n.out];simp only [];rw [h]);clear g n A Q h;go_enter Tryz.func154,Tryz.ntmps154;go_wp2_with fail
   rw [p.out];refine c.out.mono ?_;rintro e R ⟨rfl,rfl⟩;go_wp2_with fail
   refine d.out.mono ?_;intro e S s;obtain ⟨rfl,a⟩:=s;have t:=qo (ae a q.out);obtain ⟨o,I,J,K,L,M,N,O,P⟩:=t;have k:=Lib.hid o;have j:=Lib.hid (f.out.trans (a.mono f.out.size));clear o a d c;go_wp2_with fail
   obtain ⟨B,C,D,E,F⟩:=gN (x:= .int .i64 8) (y:= .string ⟨#[]⟩) (z:= .int .i64 0) (u:= .string ⟨b.toArray⟩) k.out;refine bodyPost_ret (v:= .agg #[.int .i64 8,.string ⟨#[]⟩,.int .i64 0,.string ⟨b.toArray⟩]) (by simp [results,Tryz.results154,go_sem,B,C,D,E]) rfl ?_;exact ⟨by rw [i.out];rfl,j.out.trans (F.below (Nat.le_refl _))⟩
def gH (o:Option (List UInt8)):List UInt8:=match o with | some r=>r | none=>[]
def Il (o:Option (List UInt8)):Value:= .tuple #[.string (bs (gH o)),.bool o.isSome]
theorem yS (o:Option (List UInt8)):vB o=Il o:=by cases o <;> rfl
def tz (arg:List UInt8):nj:=
 let o:=eE arg [84,79,58,60]
 if o.isSome && Lib.hasSuffix (gH o) [62] && (iG (Lib.trimSuffix (gH o) [62])).2 then ⟨10,dM (Lib.trimSuffix (gH o) [62]),0,[]⟩ else hZ
theorem py {arg p:List UInt8} (a:ee arg):ee (gH (eE arg p))∧(gH (eE arg p)).length≤arg.length:=by
 cases h:eE arg p with
 | none=>exact ⟨(fun x b=>by cases b),Nat.zero_le _⟩
 | some r=>exact lZ h a
theorem uY (l p:List UInt8):(Lib.trimSuffix l p).length≤l.length:=by
 unfold Lib.trimSuffix
 split
 ·rw [List.length_take];omega
 ·exact Nat.le_refl _
theorem xQ (arg:List UInt8) (m:Int) (w:World) (hl:arg.length≤1048576) (M:ee arg) (O:w.cell? ⟨0,0,none⟩=some (.int .i64 m)):
  Calls Tryz.prog 156 #[.string (bs arg)] w fun e V=>e= .returned (iT (tz arg))∧Below w.heap.size w V:=by
 obtain ⟨i,k⟩:∃i:World,w.alloc (.cells #[.int .i64 0,.string ⟨#[]⟩,.int .i64 0,.string ⟨#[]⟩] 179)=i:=⟨_,rfl⟩;have H:Below w.heap.size w i:=by rw [←k];exact (Below.refl _ _).alloc (Nat.le_refl _) _
 have W:i.heap[w.heap.size]? =some (.cells #[.int .i64 0,.string ⟨#[]⟩,.int .i64 0,.string ⟨#[]⟩] 179 (0,0)):=by rw [←k];exact heap_alloc_new w _
 have m0:=(H.cell (aA O)).trans O;have h:=jk arg [84,79,58,60] i hl (by decide) M (by unfold ee;decide);rw [yS] at h;have F:=py (p:=[84,79,58,60]) M;have l:Hid (tz arg=if (eE arg [84,79,58,60]).isSome && Lib.hasSuffix (gH (eE arg [84,79,58,60])) [62] && (iG (Lib.trimSuffix (gH (eE arg [84,79,58,60])) [62])).2 then ⟨10,dM (Lib.trimSuffix (gH (eE arg [84,79,58,60])) [62]),0,[]⟩ else hZ):=Lib.hid rfl;unfold Il at h;obtain ⟨c,Y⟩:∃b,(eE arg [84,79,58,60]).isSome=b:=⟨_,rfl⟩;obtain ⟨f,K⟩:∃r,gH (eE arg [84,79,58,60])=r:=⟨_,rfl⟩;rw [Y,K] at h l;rw [K] at F;have a0:=aI f;have j:=Tryz.strings_CutSuffix (bs f) ⟨#[62]⟩ i (by omega);rw [aQ,show (⟨#[62]⟩:ByteArray).data.toList=[62] from rfl] at j;have G:=uY f [62];obtain ⟨a,Z⟩:∃b,Lib.hasSuffix f [62]=b:=⟨_,rfl⟩;obtain ⟨g,L⟩:∃r,Lib.trimSuffix f [62]=r:=⟨_,rfl⟩;rw [Z,L] at j l;rw [L] at G;have o:=nP g m i (by omega) m0;obtain ⟨s,e5⟩:∃b,(iG g).2=b:=⟨_,rfl⟩;obtain ⟨P,e6⟩:∃r,dM g=r:=⟨_,rfl⟩;rw [e5,e6] at o l;have C:=Lib.hid h;have D:Hid (Calls Tryz.prog 212 #[.string (bs f),.string ⟨#[62]⟩] i fun e V=>e= .returned (.tuple #[.string (bs g),.bool a])∧V=i):=Lib.hid j;have t:=Lib.hid o;have A:=Lib.hid H;have J:=Lib.hid W;have I:=Lib.hid k;clear H W k O m0 h j o Y K Z L e5 e6 F G M;go_enter Tryz.func156,Tryz.ntmps156;go_wp2_with fail
 rw [I.out];refine C.out.mono ?_;rintro e w1 ⟨rfl,rfl⟩;go_wp2_with fail
 refine D.out.mono ?_;rintro e w2 ⟨rfl,rfl⟩;go_wp2_with fail
 refine t.out.mono ?_;rintro e w3 ⟨rfl,q⟩;obtain ⟨X,c0,c1,c2,c3,f0,f1,f2,f3⟩:=qo (ae q J.out);have E:=Lib.hid X;have B:=Lib.hid (A.out.trans (q.mono A.out.size));clear X q t D C
 by_cases d:(c && a && s)=true
 ·have n:Hid (tz arg=⟨10,P,0,[]⟩):=Lib.hid (by rw [l.out,if_pos d]);simp only [Bool.and_eq_true] at d;obtain ⟨⟨rfl,rfl⟩,rfl⟩:=d;clear l;go_wp2_with fail
  obtain ⟨Q,R,S,T,U⟩:=gN (x:= .int .i64 10) (y:= .string (bs P)) (z:= .int .i64 0) (u:= .string ⟨#[]⟩) E.out;refine bodyPost_ret (v:= .agg #[.int .i64 10,.string (bs P),.int .i64 0,.string ⟨#[]⟩]) (by simp [results,Tryz.results156,go_sem,Q,R,S,T]) rfl ?_;exact ⟨by rw [n.out];rfl,B.out.trans (U.below (Nat.le_refl _))⟩
 ·have n:Hid (tz arg=hZ):=Lib.hid (by rw [l.out,if_neg d])
  have N:c=false∨(c=true∧a=false)∨(c=true∧a=true∧s=false):=by
   cases c <;> cases a <;> cases s <;> simp at d ⊢
  clear l d
  rcases N with rfl | ⟨rfl,rfl⟩ | ⟨rfl,rfl,rfl⟩
  all_goals
   go_wp2_with fail
   obtain ⟨Q,R,S,T,U⟩:=gN (x:= .int .i64 1) (y:= .string ⟨#[]⟩) (z:= .int .i64 0) (u:= .string ⟨#[]⟩) E.out;refine bodyPost_ret (v:= .agg #[.int .i64 1,.string ⟨#[]⟩,.int .i64 0,.string ⟨#[]⟩]) (by simp [results,Tryz.results156,go_sem,Q,R,S,T]) rfl ?_;exact ⟨by rw [n.out];rfl,B.out.trans (U.below (Nat.le_refl _))⟩
theorem Gm (o:Option Nat):Gl o= .tuple #[.int .i64 ((o.getD 0:Nat):Int),.bool o.isSome]:=by cases o <;> rfl
def te (arg:List UInt8):nj:=
 let o:=eE arg [70,82,79,77,58,60]
 let x:=bS 62 (gH o)
 if o.isSome && x.2.2 && ((iG x.1).2 || x.1.isEmpty) && (kk x.2.1).isSome then ⟨9,dM x.1,(kk x.2.1).getD 0,[]⟩ else hZ
theorem sx (c:UInt8) (l x y:List UInt8) (f:Bool) (h:bS c l=(x,y,f)):(∀a∈x,a∈l)∧∀a∈y,a∈l:=by
 cases d:(bS c l).2.2 with
 | true=>
  have:=(kU c l d).1;rw [h] at this;simp only at this;rw [this];exact ⟨fun a b=>List.mem_append_left _ b,fun a b=>List.mem_append_right _ (List.mem_cons_of_mem _ b)⟩
 | false=>
  have:=(kF c l d).1;rw [h] at this;injection this with e1 e2;injection e2 with e2 _;subst e1 e2;exact ⟨fun a b=>b,fun a b=>by cases b⟩
theorem uS (arg:List UInt8) (m:Int) (w:World) (hl:arg.length≤1048576) (R:ee arg) (hm:w.cell? ⟨0,0,none⟩=some (.int .i64 m)):
  Calls Tryz.prog 155 #[.string (bs arg)] w fun e w'=>e= .returned (iT (te arg))∧Below w.heap.size w w':=by
 obtain ⟨j,t⟩:∃j:World,w.alloc (.cells #[.int .i64 0,.string ⟨#[]⟩,.int .i64 0,.string ⟨#[]⟩] 179)=j:=⟨_,rfl⟩;have U:Below w.heap.size w j:=by rw [←t];exact (Below.refl _ _).alloc (Nat.le_refl _) _
 have X0:j.heap[w.heap.size]? =some (.cells #[.int .i64 0,.string ⟨#[]⟩,.int .i64 0,.string ⟨#[]⟩] 179 (0,0)):=by rw [←t];exact heap_alloc_new w _
 have m0:=(U.cell (aA hm)).trans hm;have l:=jk arg [70,82,79,77,58,60] j hl (by decide) R (by unfold ee;decide);rw [yS] at l;have H:=py (p:=[70,82,79,77,58,60]) R;have o:Hid (te arg=if (eE arg [70,82,79,77,58,60]).isSome && (bS 62 (gH (eE arg [70,82,79,77,58,60]))).2.2 && ((iG (bS 62 (gH (eE arg [70,82,79,77,58,60]))).1).2 || (bS 62 (gH (eE arg [70,82,79,77,58,60]))).1.isEmpty) && (kk (bS 62 (gH (eE arg [70,82,79,77,58,60]))).2.1).isSome then ⟨9,dM (bS 62 (gH (eE arg [70,82,79,77,58,60]))).1,(kk (bS 62 (gH (eE arg [70,82,79,77,58,60]))).2.1).getD 0,[]⟩ else hZ):=Lib.hid rfl;unfold Il at l;obtain ⟨c,e1⟩:∃b,(eE arg [70,82,79,77,58,60]).isSome=b:=⟨_,rfl⟩;obtain ⟨B,Z⟩:∃r,gH (eE arg [70,82,79,77,58,60])=r:=⟨_,rfl⟩;rw [e1,Z] at l o;rw [Z] at H;have a2:=aI B;have N:=Lib.hid (ja (bs B) 62 j (by unfold maxLen;omega));have O:=Lib.hid m0;have P:=Lib.hid H;have M:=Lib.hid l;have K:=Lib.hid U;have Y:=Lib.hid X0;have X:=Lib.hid t;clear U X0 t hm m0 l e1 Z H R;go_enter Tryz.func155,Tryz.ntmps155;go_wp2_with fail
 rw [X.out];refine M.out.mono ?_;rintro e w1 ⟨rfl,rfl⟩;go_wp2_with fail
 refine N.out.mono ?_;rintro e w2 ⟨x,y,d,rfl,I,n,rfl⟩;rw [aQ] at I;obtain ⟨f,rfl⟩:∃r,x=bs r:=⟨x.data.toList,rfl⟩;obtain ⟨g,rfl⟩:∃r,y=bs r:=⟨y.data.toList,rfl⟩;rw [aQ,aQ] at I;rw [I] at o;simp only at o;have a0:=rC 62 _ _ _ _ I;have k:=sx 62 _ _ _ _ I;have a1:=P.out.2;have G:=nP f m (j.drewN n) (by omega) (((bw n j j.heap.size).cell (aA O.out)).trans O.out);obtain ⟨i,e5⟩:∃b,(iG f).2=b:=⟨_,rfl⟩;obtain ⟨kp,e6⟩:∃r,dM f=r:=⟨_,rfl⟩;rw [e5,e6] at G o;have s:Hid (∀W:World,Calls Tryz.prog 211 #[.string (bs g)] W fun e w'=>e= .returned (Gl (kk g))∧Below W.heap.size W w'):=Lib.hid (fun W=>xR g W (by omega) (fun a R=>P.out.1 a (k.2 a R)));rw [Gm] at s;obtain ⟨A,e7⟩:∃b,(kk g).isSome=b:=⟨_,rfl⟩;obtain ⟨sz,e8⟩:∃r,(kk g).getD 0=r:=⟨_,rfl⟩;rw [e7,e8] at s o;have J:=Lib.hid G;clear I a0 k a1 G e5 e6 e7 e8 N M;go_wp2_with fail
 refine J.out.mono ?_;rintro e w3 ⟨rfl,S⟩;have C:=Lib.hid S;clear S;go_wp2_with fail
 refine (s.out w3).mono ?_;rintro e w4 ⟨rfl,T⟩;have V:Below j.heap.size j w4:=(bw n j j.heap.size).trans ((C.out.mono (by simp)).trans (T.mono (by have:=C.out.size;simp at this;exact this)));obtain ⟨X1,c0,c1,c2,c3,f0,f1,f2,f3⟩:=qo (ae V Y.out);have Q:=Lib.hid X1;have L:=Lib.hid (K.out.trans (V.mono K.out.size));obtain ⟨F,E⟩:∃b,f.isEmpty=b:=⟨_,rfl⟩
 have q:Hid (F=true ↔ (bs f).toList=[]):=Lib.hid (by
  rw [ByteArray.toList_eq,aQ,←E]
  cases f <;> simp)
 rw [E] at o;clear X1 T J s V C E
 by_cases h:(c && d && (i || F) && A)=true
 ·have D:Hid (te arg=⟨9,kp,sz,[]⟩):=Lib.hid (by rw [o.out,if_pos h]);simp only [Bool.and_eq_true] at h;obtain ⟨⟨⟨rfl,rfl⟩,h3⟩,rfl⟩:=h;have k:i=true∨(i=false∧F=true):=by cases i <;> cases F <;> simp at h3 ⊢
  clear o h3
  rcases k with rfl | ⟨rfl,rfl⟩
  all_goals
   try (have hE:(bs f).toList=[]:=q.out.1 rfl)
   try (have hE:¬(bs f).toList=[]:=fun e=>Bool.false_ne_true (q.out.2 e))
   go_wp2_with fail
   obtain ⟨r0,r1,r2,r3,rS⟩:=gN (x:= .int .i64 9) (y:= .string (bs kp)) (z:= .int .i64 (sz:Int)) (u:= .string ⟨#[]⟩) Q.out;refine bodyPost_ret (v:= .agg #[.int .i64 9,.string (bs kp),.int .i64 (sz:Int),.string ⟨#[]⟩]) (by simp [results,Tryz.results155,go_sem,r0,r1,r2,r3]) rfl ?_;exact ⟨by rw [D.out];rfl,L.out.trans (rS.below (Nat.le_refl _))⟩
 ·have D:Hid (te arg=hZ):=Lib.hid (by rw [o.out,if_neg h])
  have k:c=false∨(c=true∧d=false)∨(c=true∧d=true∧i=false∧F=false)∨(c=true∧d=true∧i=true∧A=false)∨(c=true∧d=true∧i=false∧F=true∧A=false):=by
   cases c <;> cases d <;> cases i <;> cases F <;> cases A <;> simp at h ⊢
  clear o h
  rcases k with rfl | ⟨rfl,rfl⟩ | ⟨rfl,rfl,rfl,rfl⟩ | ⟨rfl,rfl,rfl,rfl⟩ | ⟨rfl,rfl,rfl,rfl,rfl⟩
  all_goals
   try (have hE:(bs f).toList=[]:=q.out.1 rfl)
   try (have hE:¬(bs f).toList=[]:=fun e=>Bool.false_ne_true (q.out.2 e))
   go_wp2_with fail
   obtain ⟨r0,r1,r2,r3,rS⟩:=gN (x:= .int .i64 1) (y:= .string ⟨#[]⟩) (z:= .int .i64 0) (u:= .string ⟨#[]⟩) Q.out;refine bodyPost_ret (v:= .agg #[.int .i64 1,.string ⟨#[]⟩,.int .i64 0,.string ⟨#[]⟩]) (by simp [results,Tryz.results155,go_sem,r0,r1,r2,r3]) rfl ?_;exact ⟨by rw [D.out];rfl,L.out.trans (rS.below (Nat.le_refl _))⟩
def Ib:List (List UInt8):=[[81,85,73,84],[78,79,79,80],[82,83,69,84],[68,65,84,65],[72,69,76,79],[69,72,76,79],[65,85,84,72],[77,65,73,76],[82,67,80,84]]
def CK (W:List UInt8) (arg:List UInt8) (has:Bool):nj:=
 if W=[81,85,73,84] then ku 2 has
 else if W=[78,79,79,80] then ku 3 has
 else if W=[82,83,69,84] then ku 4 has
 else if W=[68,65,84,65] then ku 5 has
 else if W=[72,69,76,79] then mg 6 arg
 else if W=[69,72,76,79] then mg 7 arg
 else if W=[65,85,84,72] then qk arg
 else if W=[77,65,73,76] then te arg
 else if W=[82,67,80,84] then tz arg
 else qy 0
def bn (text:List UInt8) (bad:Bool):nj:=if bad then qy 0 else CK (Lib.toUpperA (bS 32 text).1) (bS 32 text).2.1 (bS 32 text).2.2
theorem yN (a:List UInt8) (w:World):Calls Tryz.prog 103 #[.agg #[.string (bs a),.bool true]] w fun e l=>e= .returned (iT (bn a true))∧Below w.heap.size w l:=by
 have g:Hid (bn a true=qy 0):=Lib.hid rfl;go_enter Tryz.func103,Tryz.ntmps103;go_wp2_with fail
 obtain ⟨c,b⟩:∃c:World,w.alloc (.cells #[.string (bs a),.bool true] 138)=c:=⟨_,rfl⟩;have d:c.heap.size=w.heap.size+1:=by rw [←b];simp
 have f:Below w.heap.size w c:=by rw [←b];exact (Below.refl _ _).alloc (Nat.le_refl _) _
 rw [b];have X:=heap_alloc_new c (.cells #[.int .i64 0,.string ⟨#[]⟩,.int .i64 0,.string ⟨#[]⟩] 179);rw [d] at X;obtain ⟨_,h,i,j,k,_⟩:=qo X;refine bodyPost_ret (v:= .agg #[.int .i64 0,.string ⟨#[]⟩,.int .i64 0,.string ⟨#[]⟩]) (by simp [results,Tryz.results103,go_sem,h,i,j,k]) rfl ?_;exact ⟨by rw [g.out];rfl,f.alloc f.size _⟩
theorem wC (a:List UInt8) (w:World) (g:a.length≤1048576) (c:ee a):Calls Tryz.prog 151 #[.string (bs a)] w fun e f=>e= .returned (.string (bs (Lib.toUpperA a)))∧Below w.heap.size w f:=by
 have h:=aI a;exact Tryz.strings_ToUpper_ascii (bs a) w (by omega) (fun j b d=>c b (List.mem_of_getElem? d))
def Ie (V arg:List UInt8) (has:Bool) (kx:nj):Prop:=bs V=⟨#[81,85,73,84]⟩∧ku 2 has=kx∨bs V=⟨#[78,79,79,80]⟩∧ku 3 has=kx∨bs V=⟨#[82,83,69,84]⟩∧ku 4 has=kx∨bs V=⟨#[68,65,84,65]⟩∧ku 5 has=kx∨bs V=⟨#[72,69,76,79]⟩∧mg 6 arg=kx∨bs V=⟨#[69,72,76,79]⟩∧mg 7 arg=kx∨bs V=⟨#[65,85,84,72]⟩∧qk arg=kx∨bs V=⟨#[77,65,73,76]⟩∧te arg=kx∨bs V=⟨#[82,67,80,84]⟩∧tz arg=kx
theorem eZ (b:List UInt8) (m:Int) (w:World) (hl:b.length≤1048576) (A:ee b) (X:w.cell? ⟨0,0,none⟩=some (.int .i64 m)) {V:List UInt8} {h:nj} (hW:Lib.toUpperA (bS 32 b).1=V) (M:Ie V (bS 32 b).2.1 (bS 32 b).2.2 h):Calls Tryz.prog 103 #[.agg #[.string (bs b),.bool false]] w fun e w'=>e= .returned (iT h)∧Below w.heap.size w w':=by
 obtain ⟨l,q⟩:∃l:World,w.alloc (.cells #[.string (bs b),.bool false] 138)=l:=⟨_,rfl⟩;have N:Below w.heap.size w l:=by rw [←q];exact (Below.refl _ _).alloc (Nat.le_refl _) _
 have Y:l.heap.size=w.heap.size+1:=by rw [←q];simp
 have L0:l.heap[w.heap.size]? =some (.cells #[.string (bs b),.bool false] 138 (0,0)):=by rw [←q];exact heap_alloc_new w _
 obtain ⟨d,F⟩:∃d:World,l.alloc (.cells #[.int .i64 0,.string ⟨#[]⟩,.int .i64 0,.string ⟨#[]⟩] 179)=d:=⟨_,rfl⟩;have O:Below l.heap.size l d:=by rw [←F];exact (Below.refl _ _).alloc (Nat.le_refl _) _
 have X1:d.heap[w.heap.size+1]? =some (.cells #[.int .i64 0,.string ⟨#[]⟩,.int .i64 0,.string ⟨#[]⟩] 179 (0,0)):=by rw [←F,←Y];exact heap_alloc_new l _
 have U:=ae O L0;have l0:d.cell? ⟨w.heap.size,0,none⟩=some (.string (bs b)):=by rw [Lib.cell_of_heap U];rfl
 have l1:d.cell? ⟨w.heap.size,1,none⟩=some (.bool false):=by rw [Lib.cell_of_heap U];rfl
 have p:Below w.heap.size w d:=N.trans (O.mono N.size);have a0:=aI b;have E:=Lib.hid (ja (bs b) 32 d (by unfold maxLen;omega));have HM:=Lib.hid ((p.cell (aA X)).trans X);have P:=Lib.hid A;have C:=Lib.hid p;have R:=Lib.hid X1;have L:=Lib.hid hW;have K:=Lib.hid M;clear N L0 O X1 U X A p hW M;go_enter Tryz.func103,Tryz.ntmps103;go_wp2_with fail
 refine E.out.mono ?_;rintro e w2 ⟨x,y,o,rfl,B,n,rfl⟩;rw [aQ] at B;obtain ⟨I,rfl⟩:∃r,x=bs r:=⟨x.data.toList,rfl⟩;obtain ⟨arg,rfl⟩:∃r,y=bs r:=⟨y.data.toList,rfl⟩;rw [aQ,aQ] at B;have W:=rC 32 _ _ _ _ B;have t:=sx 32 _ _ _ _ B;have k:=Lib.hid (wC I (d.drewN n) (by omega) (fun a A=>P.out a (t.1 a A)));have c:Hid (ee arg∧arg.length≤1048576):=Lib.hid ⟨fun a A=>P.out a (t.2 a A),by omega⟩
 rw [B] at L K;simp only at L K;have H:=L.out;rw [H] at k;have M:=K.out;clear B W t E P K L H
 rcases M with ⟨f,g⟩ | ⟨f,g⟩ | ⟨f,g⟩ | ⟨f,g⟩ | ⟨f,g⟩ | ⟨f,g⟩ | ⟨f,g⟩ | ⟨f,g⟩ | ⟨f,g⟩
 all_goals
  rw [f] at k;have Z:=Lib.hid g;clear f g;go_wp2_with fail
  refine k.out.mono ?_;rintro e i ⟨rfl,G⟩;have J:Below d.heap.size d i:=(bw n d d.heap.size).trans (G.mono (by simp));have D:=Lib.hid (C.out.trans (J.mono C.out.size));have S:=Lib.hid (ae J R.out);have j:=Lib.hid ((J.cell (aA HM.out)).trans HM.out);clear G J k;go_wp2_with fail
 refine (jL 2 o i).mono ?_
 rotate_left
 refine (jL 3 o i).mono ?_
 rotate_left
 refine (jL 4 o i).mono ?_
 rotate_left
 refine (jL 5 o i).mono ?_
 rotate_left
 refine (nG 6 arg m i c.out.2 j.out).mono ?_
 rotate_left
 refine (nG 7 arg m i c.out.2 j.out).mono ?_
 rotate_left
 refine (xP arg i c.out.2 c.out.1).mono ?_
 rotate_left
 refine (uS arg m i c.out.2 c.out.1 j.out).mono ?_
 rotate_left
 refine (xQ arg m i c.out.2 c.out.1 j.out).mono ?_
 rotate_left
 all_goals
  rintro e w4 ⟨rfl,s⟩;rw [Z.out];simp only [iT];obtain ⟨X4,c0,c1,c2,c3,f0,f1,f2,f3⟩:=qo (ae s S.out);have T:=Lib.hid X4;have Q:=Lib.hid (D.out.trans (s.mono D.out.size));clear X4 s Z;go_wp2_with fail
  obtain ⟨r0,r1,r2,r3,rS⟩:=gN (x:= .int .i64 (h.verb:Int)) (y:= .string (bs h.name)) (z:= .int .i64 (h.size:Int)) (u:= .string (bs h.shown)) T.out;refine bodyPost_ret (v:= .agg #[.int .i64 (h.verb:Int),.string (bs h.name),.int .i64 (h.size:Int),.string (bs h.shown)]) (by simp [results,Tryz.results103,go_sem,r0,r1,r2,r3]) rfl ?_;exact ⟨rfl,Q.out.trans (rS.below (Nat.le_succ _))⟩
theorem wX (b:List UInt8) (m:Int) (w:World) (hl:b.length≤1048576) (l:ee b) (K:w.cell? ⟨0,0,none⟩=some (.int .i64 m)) (R:Lib.toUpperA (bS 32 b).1 ∉ Ib):Calls Tryz.prog 103 #[.agg #[.string (bs b),.bool false]] w fun e w'=>e= .returned (iT (qy 0))∧Below w.heap.size w w':=by
 obtain ⟨f,j⟩:∃f:World,w.alloc (.cells #[.string (bs b),.bool false] 138)=f:=⟨_,rfl⟩;have B:Below w.heap.size w f:=by rw [←j];exact (Below.refl _ _).alloc (Nat.le_refl _) _
 have L:f.heap.size=w.heap.size+1:=by rw [←j];simp
 have N:f.heap[w.heap.size]? =some (.cells #[.string (bs b),.bool false] 138 (0,0)):=by rw [←j];exact heap_alloc_new w _
 obtain ⟨c,s⟩:∃c:World,f.alloc (.cells #[.int .i64 0,.string ⟨#[]⟩,.int .i64 0,.string ⟨#[]⟩] 179)=c:=⟨_,rfl⟩;have C:Below f.heap.size f c:=by rw [←s];exact (Below.refl _ _).alloc (Nat.le_refl _) _
 have O:c.heap[w.heap.size+1]? =some (.cells #[.int .i64 0,.string ⟨#[]⟩,.int .i64 0,.string ⟨#[]⟩] 179 (0,0)):=by rw [←s,←L];exact heap_alloc_new f _
 have I:=ae C N;have l0:c.cell? ⟨w.heap.size,0,none⟩=some (.string (bs b)):=by rw [Lib.cell_of_heap I];rfl
 have l1:c.cell? ⟨w.heap.size,1,none⟩=some (.bool false):=by rw [Lib.cell_of_heap I];rfl
 have h:Below w.heap.size w c:=B.trans (C.mono B.size);have W:=aI b;have q:=Lib.hid (ja (bs b) 32 c (by unfold maxLen;omega));have M:=Lib.hid ((h.cell (aA K)).trans K);have D:=Lib.hid l;have p:=Lib.hid h;have F:=Lib.hid O;have d:=Lib.hid R;clear B N C O I K l h R;go_enter Tryz.func103,Tryz.ntmps103;go_wp2_with fail
 refine q.out.mono ?_;rintro e w2 ⟨x,y,V,rfl,o,n,rfl⟩;rw [aQ] at o;obtain ⟨g,rfl⟩:∃r,x=bs r:=⟨x.data.toList,rfl⟩;obtain ⟨arg,rfl⟩:∃r,y=bs r:=⟨y.data.toList,rfl⟩;rw [aQ,aQ] at o;have J:=rC 32 _ _ _ _ o;have k:=sx 32 _ _ _ _ o;have i:=Lib.hid (wC g (c.drewN n) (by omega) (fun a l=>D.out a (k.1 a l)));have S:Hid (ee arg∧arg.length≤1048576):=Lib.hid ⟨fun a l=>D.out a (k.2 a l),by omega⟩
 rw [o] at d;simp only at d;obtain ⟨U,Q⟩:∃U,Lib.toUpperA g=U:=⟨_,rfl⟩;rw [Q] at d i;have n0:((bs U).toList == [81,85,73,84])=false:=by rw [beq_eq_false_iff_ne,ByteArray.toList_eq,aQ];exact fun e=>d.out (by rw [e];decide)
 have n1:((bs U).toList == [78,79,79,80])=false:=by rw [beq_eq_false_iff_ne,ByteArray.toList_eq,aQ];exact fun e=>d.out (by rw [e];decide)
 have n2:((bs U).toList == [82,83,69,84])=false:=by rw [beq_eq_false_iff_ne,ByteArray.toList_eq,aQ];exact fun e=>d.out (by rw [e];decide)
 have n3:((bs U).toList == [68,65,84,65])=false:=by rw [beq_eq_false_iff_ne,ByteArray.toList_eq,aQ];exact fun e=>d.out (by rw [e];decide)
 have n4:((bs U).toList == [72,69,76,79])=false:=by rw [beq_eq_false_iff_ne,ByteArray.toList_eq,aQ];exact fun e=>d.out (by rw [e];decide)
 have n5:((bs U).toList == [69,72,76,79])=false:=by rw [beq_eq_false_iff_ne,ByteArray.toList_eq,aQ];exact fun e=>d.out (by rw [e];decide)
 have n6:((bs U).toList == [65,85,84,72])=false:=by rw [beq_eq_false_iff_ne,ByteArray.toList_eq,aQ];exact fun e=>d.out (by rw [e];decide)
 have n7:((bs U).toList == [77,65,73,76])=false:=by rw [beq_eq_false_iff_ne,ByteArray.toList_eq,aQ];exact fun e=>d.out (by rw [e];decide)
 have n8:((bs U).toList == [82,67,80,84])=false:=by rw [beq_eq_false_iff_ne,ByteArray.toList_eq,aQ];exact fun e=>d.out (by rw [e];decide)
 clear Q;clear o J k q D;go_wp2_with fail
 refine i.out.mono ?_;rintro e w3 ⟨rfl,t⟩;have A:Below c.heap.size c w3:=(bw n c c.heap.size).trans (t.mono (by simp));have E:=Lib.hid (p.out.trans (A.mono p.out.size));have G:=Lib.hid (ae A F.out);have T:=Lib.hid ((A.cell (aA M.out)).trans M.out);clear t A i;obtain ⟨P,c0,c1,c2,c3,f0,f1,f2,f3⟩:=qo G.out;have H:=Lib.hid P;clear P;go_wp2_with fail
 obtain ⟨X,Y,Z,r3,rS⟩:=gN (x:= .int .i64 0) (y:= .string ⟨#[]⟩) (z:= .int .i64 0) (u:= .string ⟨#[]⟩) H.out;refine bodyPost_ret (v:= .agg #[.int .i64 0,.string ⟨#[]⟩,.int .i64 0,.string ⟨#[]⟩]) (by simp [results,Tryz.results103,go_sem,X,Y,Z,r3]) rfl ?_;exact ⟨rfl,E.out.trans (rS.below (Nat.le_succ _))⟩
end Go.Proofs.YtofpegbpgkkgkaaGreatDoor
