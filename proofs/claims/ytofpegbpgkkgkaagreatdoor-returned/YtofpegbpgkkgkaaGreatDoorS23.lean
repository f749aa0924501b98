import Derived.Test.YtofpegbpgkkgkaaGreatDoorS16
import Derived.Test.YtofpegbpgkkgkaaGreatDoorS13
import Derived.Test.YtofpegbpgkkgkaaGreatDoorS19
namespace Go.Proofs.YtofpegbpgkkgkaaGreatDoor
set_option maxHeartbeats 8000000
set_option maxRecDepth 1000000
open Go.RowKit
def jo (k:og):Value:= .agg #[.int .i64 (k.verb:Int),.string (bs k.name),.int .i64 (k.size:Int),.string (bs k.shown)]
def iI:og:=⟨1,[],0,[]⟩
def rJ (v:Nat):og:=⟨v,[],0,[]⟩
def la (v:Nat) (has:Bool):og:=if has then iI else rJ v
def mW (v:Nat) (arg:List UInt8):og:=if jj arg then rJ v else iI
theorem ia {f:World} {k:Nat} {a b c d x y z u:Value} {t:TypeId} (h:f.heap[k]? =some (.cells #[a,b,c,d] t (0,0))):
  let W:=(((f.setCell ⟨k,0,none⟩ x).setCell ⟨k,1,none⟩ y).setCell ⟨k,2,none⟩ z).setCell ⟨k,3,none⟩ u
  W.cell? ⟨k,0,none⟩=some x∧W.cell? ⟨k,1,none⟩=some y∧W.cell? ⟨k,2,none⟩=some z∧W.cell? ⟨k,3,none⟩=some u∧aL k f W:=by
 intro W;have g:=heap_setCell_same f k 0 _ _ x h;have i:=heap_setCell_same _ k 1 _ _ y g;have j:=heap_setCell_same _ k 2 _ _ z i;have e:=heap_setCell_same _ k 3 _ _ u j;exact ⟨by rw [Lib.cell_of_heap e];rfl,by rw [Lib.cell_of_heap e];rfl,by rw [Lib.cell_of_heap e];rfl,by rw [Lib.cell_of_heap e];rfl,((((aL.refl _ _).setCell _).setCell _).setCell _).setCell _⟩
theorem j9 (v:Nat) (a:Bool) (w:World):Calls Tryz.prog 152 #[.int .i64 (v:Int),.bool a] w fun e g=>e= .returned (jo (la v a))∧Below w.heap.size w g:=by
 cases a with
 | true=>
  go_enter Tryz.func152,Tryz.ntmps152;go_wp2_with fail
  have X:=heap_alloc_new w (.cells #[.int .i64 1,.string ⟨#[]⟩,.int .i64 0,.string ⟨#[]⟩] 179);have b:(w.alloc (.cells #[.int .i64 1,.string ⟨#[]⟩,.int .i64 0,.string ⟨#[]⟩] 179)).cell? ⟨w.heap.size,0,none⟩=some (.int .i64 1):=by rw [Lib.cell_of_heap X];rfl
  have c:(w.alloc (.cells #[.int .i64 1,.string ⟨#[]⟩,.int .i64 0,.string ⟨#[]⟩] 179)).cell? ⟨w.heap.size,1,none⟩=some (.string ⟨#[]⟩):=by rw [Lib.cell_of_heap X];rfl
  have d:(w.alloc (.cells #[.int .i64 1,.string ⟨#[]⟩,.int .i64 0,.string ⟨#[]⟩] 179)).cell? ⟨w.heap.size,2,none⟩=some (.int .i64 0):=by rw [Lib.cell_of_heap X];rfl
  have f:(w.alloc (.cells #[.int .i64 1,.string ⟨#[]⟩,.int .i64 0,.string ⟨#[]⟩] 179)).cell? ⟨w.heap.size,3,none⟩=some (.string ⟨#[]⟩):=by rw [Lib.cell_of_heap X];rfl
  refine bodyPost_ret (v:= .agg #[.int .i64 1,.string ⟨#[]⟩,.int .i64 0,.string ⟨#[]⟩]) (by simp [results,Tryz.results152,go_sem,b,c,d,f]) rfl ?_;exact ⟨rfl,(Below.refl _ _).alloc (Nat.le_refl _) _⟩
 | false=>
  go_enter Tryz.func152,Tryz.ntmps152;go_wp2_with fail
  have X:=heap_alloc_new w (.cells #[.int .i64 (v:Int),.string ⟨#[]⟩,.int .i64 0,.string ⟨#[]⟩] 179);have b:(w.alloc (.cells #[.int .i64 (v:Int),.string ⟨#[]⟩,.int .i64 0,.string ⟨#[]⟩] 179)).cell? ⟨w.heap.size,0,none⟩=some (.int .i64 (v:Int)):=by rw [Lib.cell_of_heap X];rfl
  have c:(w.alloc (.cells #[.int .i64 (v:Int),.string ⟨#[]⟩,.int .i64 0,.string ⟨#[]⟩] 179)).cell? ⟨w.heap.size,1,none⟩=some (.string ⟨#[]⟩):=by rw [Lib.cell_of_heap X];rfl
  have d:(w.alloc (.cells #[.int .i64 (v:Int),.string ⟨#[]⟩,.int .i64 0,.string ⟨#[]⟩] 179)).cell? ⟨w.heap.size,2,none⟩=some (.int .i64 0):=by rw [Lib.cell_of_heap X];rfl
  have f:(w.alloc (.cells #[.int .i64 (v:Int),.string ⟨#[]⟩,.int .i64 0,.string ⟨#[]⟩] 179)).cell? ⟨w.heap.size,3,none⟩=some (.string ⟨#[]⟩):=by rw [Lib.cell_of_heap X];rfl
  refine bodyPost_ret (v:= .agg #[.int .i64 (v:Int),.string ⟨#[]⟩,.int .i64 0,.string ⟨#[]⟩]) (by simp [results,Tryz.results152,go_sem,b,c,d,f]) rfl ?_;exact ⟨rfl,(Below.refl _ _).alloc (Nat.le_refl _) _⟩
theorem oC (v:Nat) (arg:List UInt8) (m:Int) (w:World) (F:arg.length≤1048576) (o:w.cell? ⟨0,0,none⟩=some (.int .i64 m)):Calls Tryz.prog 153 #[.int .i64 (v:Int),.string (bs arg)] w fun e E=>e= .returned (jo (mW v arg))∧Below w.heap.size w E:=by
 obtain ⟨h,b⟩:∃h:World,w.alloc (.cells #[.int .i64 0,.string ⟨#[]⟩,.int .i64 0,.string ⟨#[]⟩] 179)=h:=⟨_,rfl⟩;have j:Below w.heap.size w h:=by rw [←b];exact (Below.refl _ _).alloc (Nat.le_refl _) _
 have D:h.heap[w.heap.size]? =some (.cells #[.int .i64 0,.string ⟨#[]⟩,.int .i64 0,.string ⟨#[]⟩] 179 (0,0)):=by rw [←b];exact heap_alloc_new w _
 have G:=aG arg;have B:=Lib.hid (iy (bs arg) m h (by unfold maxLen;omega) ((j.cell (eI o)).trans o));have d:=Lib.hid j;have l:=Lib.hid D;have k:=Lib.hid b;clear j D b o;go_enter Tryz.func153,Tryz.ntmps153;go_wp2_with fail
 rw [k.out];refine B.out.mono ?_;rintro e i ⟨rfl,c⟩;rw [aI];have a:=ae c l.out;have H:i.cell? ⟨w.heap.size,0,none⟩=some (.int .i64 0):=by rw [Lib.cell_of_heap a];rfl
 have I:i.cell? ⟨w.heap.size,1,none⟩=some (.string ⟨#[]⟩):=by rw [Lib.cell_of_heap a];rfl
 have J:i.cell? ⟨w.heap.size,2,none⟩=some (.int .i64 0):=by rw [Lib.cell_of_heap a];rfl
 have K:i.cell? ⟨w.heap.size,3,none⟩=some (.string ⟨#[]⟩):=by rw [Lib.cell_of_heap a];rfl
 have L:=Lib.frozen_of_heap a 0;have M:=Lib.frozen_of_heap a 1;have N:=Lib.frozen_of_heap a 2;have O:=Lib.frozen_of_heap a 3;have g:=Lib.hid a;have f:=Lib.hid (d.out.trans (c.mono d.out.size));obtain ⟨t,n⟩:∃t,jj arg=t:=⟨_,rfl⟩;rw [n];have C:Hid (mW v arg=if t then rJ v else iI):=Lib.hid (by unfold mW;rw [n]);clear a c n B
 cases t with
 | true=>
  go_wp2_with fail
  obtain ⟨p,q,r,s,A⟩:=ia (x:= .int .i64 (v:Int)) (y:= .string ⟨#[]⟩) (z:= .int .i64 0) (u:= .string ⟨#[]⟩) g.out;refine bodyPost_ret (v:= .agg #[.int .i64 (v:Int),.string ⟨#[]⟩,.int .i64 0,.string ⟨#[]⟩]) (by simp [results,Tryz.results153,go_sem,p,q,r,s]) rfl ?_;exact ⟨by rw [C.out];rfl,f.out.trans (A.below (Nat.le_refl _))⟩
 | false=>
  go_wp2_with fail
  obtain ⟨p,q,r,s,A⟩:=ia (x:= .int .i64 1) (y:= .string ⟨#[]⟩) (z:= .int .i64 0) (u:= .string ⟨#[]⟩) g.out;refine bodyPost_ret (v:= .agg #[.int .i64 1,.string ⟨#[]⟩,.int .i64 0,.string ⟨#[]⟩]) (by simp [results,Tryz.results153,go_sem,p,q,r,s]) rfl ?_;exact ⟨by rw [C.out];rfl,f.out.trans (A.below (Nat.le_refl _))⟩
def fp (l:List UInt8):Prop:=∀x∈l,x.toNat < 128
def fu (s p:List UInt8):Option (List UInt8):=if s.length < p.length then none else if Lib.equalFold (s.take p.length) p then some (s.drop p.length) else none
def xz (o:Option (List UInt8)):Value:=
 match o with
 | some r=> .tuple #[.string (bs r),.bool true]
 | none=> .tuple #[.string ⟨#[]⟩,.bool false]
theorem jK (s p:List UInt8) (w:World) (_:s.length≤1048576) (r:p.length≤100) (i:fp s) (k:fp p):Calls Tryz.prog 208 #[.string (bs s),.string (bs p)] w fun e f=>e= .returned (xz (fu s p))∧w=f:=by
 have o:=aG s;have q:=aG p
 by_cases c:s.length < p.length
 ·have a:Hid (fu s p=none):=Lib.hid (by unfold fu;rw [if_pos c]);have m:(s.length:Int) < (p.length:Int):=by omega
  go_enter Tryz.func208,Tryz.ntmps208;go_wp2_with fail
  go_ret2
  exact ⟨by rw [a.out];rfl,rfl⟩
 ·have m:¬(s.length:Int) < (p.length:Int):=by omega
  have n:(bs s).extract 0 p.length=bs (s.take p.length):=by rw [fW,List.drop_zero]
  have l:(bs s).extract p.length s.length=bs (s.drop p.length):=by rw [fW,List.take_length]
  have g:Hid (∀W:World,Calls Tryz.prog 246 #[.string (bs (s.take p.length)),.string (bs p)] W fun e f=>e= .returned (.bool (Lib.equalFold (s.take p.length) p))∧f=W):=Lib.hid (fun W=>Tryz.strings_EqualFold (bs (s.take p.length)) (bs p) W (by rw [aG,List.length_take];omega) (fun j b d=>i b (List.mem_of_mem_take (List.mem_of_getElem? d))) (fun j b d=>k b (List.mem_of_getElem? d)));have a:Hid (fu s p=if Lib.equalFold (s.take p.length) p then some (s.drop p.length) else none):=Lib.hid (by unfold fu;rw [if_neg c]);obtain ⟨t,h⟩:∃t,Lib.equalFold (s.take p.length) p=t:=⟨_,rfl⟩;rw [h] at g a;clear i k h;go_enter Tryz.func208,Tryz.ntmps208;go_wp2_with fail
  refine (g.out w).mono ?_;rintro e u ⟨rfl,rfl⟩
  cases t with
  | true=>
   go_wp2_with fail
   go_ret2
   exact ⟨by rw [a.out];rfl,rfl⟩
  | false=>
   go_wp2_with fail
   go_ret2
   exact ⟨by rw [a.out];rfl,rfl⟩
def oZ (l:List UInt8):Bool:=decide (1≤l.length) && decide (l.length≤9) && !(decide (1 < l.length) && (l.getD 0 0 == 48)) && l.all fun c=>ix c.toNat
theorem Dm {l:List UInt8} (h:l.length < 1):oZ l=false:=by unfold oZ;rw [decide_eq_false (by omega)];rfl
theorem Fu {l:List UInt8} (h:9 < l.length):oZ l=false:=by unfold oZ;rw [decide_eq_false (p:=l.length≤9) (by omega),Bool.and_false];rfl
theorem Fv {l:List UInt8} (h:1 < l.length) (a:l.getD 0 0=48):oZ l=false:=by unfold oZ;rw [decide_eq_true (p:=1 < l.length) h,a];simp
theorem Bo {l:List UInt8} (b:1≤l.length) (d:l.length≤9) (a:l.length=1∨l.getD 0 0≠48):oZ l=l.all fun c=>ix c.toNat:=by
 unfold oZ;rw [decide_eq_true b,decide_eq_true d]
 have:(decide (1 < l.length) && (l.getD 0 0 == 48))=false:=by
  rcases a with a | a
  ·rw [decide_eq_false (by omega)];rfl
  ·rw [beq_eq_false_iff_ne.2 a,Bool.and_false]
 rw [this];simp
theorem zg (s:ByteArray) (w:World) (y:s.size≤maxLen):
  Calls Tryz.prog 248 #[.string s] w fun e A=>e= .returned (.bool (oZ s.data.toList))∧A=w:=by
 unfold maxLen at y;have z:=aJ s
 by_cases B:s.size < 1
 ·have b:=Lib.hid (Dm (l:=s.data.toList) (by omega));have x:(s.size:Int) < 1:=by omega
  go_enter Tryz.func248,Tryz.ntmps248;go_wp2_with fail
  go_ret;exact ⟨by rw [b.out];rfl,rfl⟩
 ·have x:¬(s.size:Int) < 1:=by omega
  by_cases C:9 < s.size
  ·have b:=Lib.hid (Fu (l:=s.data.toList) (by omega));have h:(9:Int) < (s.size:Int):=by omega
   go_enter Tryz.func248,Tryz.ntmps248;go_wp2_with fail
   go_ret;exact ⟨by rw [b.out];rfl,rfl⟩
  ·have h:¬(9:Int) < (s.size:Int):=by omega
   by_cases D:s.size=1
   ·have b:=Lib.hid (Bo (l:=s.data.toList) (by omega) (by omega) (.inl (by omega)));have t:¬(1:Int) < (s.size:Int):=by omega
    go_enter Tryz.func248,Tryz.ntmps248;go_wp2_with fail
    go_loop [24] (fun i=>∃k:Nat,k≤s.size∧i= .int .i64 k∧Hid (∀j:Nat,j < k→(fun c:UInt8=>ix c.toNat) (s.data.toList.getD j 0)=true)) (fun i=>s.size - (intOf i).toNat)
    case atStart=>exact ⟨0,Nat.zero_le _,rfl,fun j h=>by omega⟩
    case round=>
     obtain ⟨k,t,rfl,n⟩:=hrel
     by_cases a:k < s.size
     ·have o:(k:Int) < (s.size:Int):=by omega
      have g:Hid (s.data.toList.getD k 0=s[k]):=pN s k a
      by_cases u:(s[k].toNat:Int) < 48
      ·have d:Hid ((fun c:UInt8=>ix c.toNat) s[k]=false):=Lib.hid (by simp only [ix];rw [decide_eq_false (by omega)];rfl);go_wp2_with fail
       go_ret;exact ⟨cG (by rw [b.out];exact (qH (p:=fun c:UInt8=>ix c.toNat) (by rw [aJ];exact a) (by rw [g.out];exact d.out)).symm),rfl⟩
      ·by_cases r:(57:Int) < (s[k].toNat:Int)
       ·have d:Hid ((fun c:UInt8=>ix c.toNat) s[k]=false):=Lib.hid (by simp only [ix];rw [decide_eq_false (p:=(s[k].toNat:Int)≤57) (by omega),Bool.and_false]);go_wp2_with fail
        go_ret;exact ⟨cG (by rw [b.out];exact (qH (p:=fun c:UInt8=>ix c.toNat) (by rw [aJ];exact a) (by rw [g.out];exact d.out)).symm),rfl⟩
       ·have d:Hid ((fun c:UInt8=>ix c.toNat) s[k]=true):=Lib.hid (by simp only [ix];rw [decide_eq_true (by omega),decide_eq_true (by omega)];rfl);go_wp2_with fail
        exact ⟨⟨k+1,by omega,by go_num,Lib.hid (qj (p:=fun c:UInt8=>ix c.toNat) n.out g.out d.out)⟩,by simp [intOf];omega⟩
     ·go_wp2_with fail
      go_ret;exact ⟨cG (by rw [b.out];exact (yx (p:=fun c:UInt8=>ix c.toNat) (fun j h=>n.out j (by rw [aJ] at h;omega))).symm),rfl⟩
   ·have t:(1:Int) < (s.size:Int):=by omega
    have v:0 < s.size:=by omega
    have f:=pN s 0 v
    by_cases m:s[0]=48
    ·have b:=Lib.hid (Fv (l:=s.data.toList) (by omega) (by rw [f,m]));have q:((s[0].toNat:Int) == 48)=true:=by rw [m];rfl
     clear m f;go_enter Tryz.func248,Tryz.ntmps248;go_wp2_with fail
     go_ret;exact ⟨by rw [b.out];rfl,rfl⟩
    ·have b:=Lib.hid (Bo (l:=s.data.toList) (by omega) (by omega) (.inr (by rw [f];exact m)))
     have q:((s[0].toNat:Int) == 48)=false:=by
      rw [beq_eq_false_iff_ne];intro e;exact m (UInt8.toNat_inj.1 (by show s[0].toNat=48;omega))
     clear m f;go_enter Tryz.func248,Tryz.ntmps248;go_wp2_with fail
     go_loop [24] (fun i=>∃k:Nat,k≤s.size∧i= .int .i64 k∧Hid (∀j:Nat,j < k→(fun c:UInt8=>ix c.toNat) (s.data.toList.getD j 0)=true)) (fun i=>s.size - (intOf i).toNat)
     case atStart=>exact ⟨0,Nat.zero_le _,rfl,fun j h=>by omega⟩
     case round=>
      obtain ⟨k,t,rfl,n⟩:=hrel
      by_cases a:k < s.size
      ·have o:(k:Int) < (s.size:Int):=by omega
       have g:Hid (s.data.toList.getD k 0=s[k]):=pN s k a
       by_cases u:(s[k].toNat:Int) < 48
       ·have d:Hid ((fun c:UInt8=>ix c.toNat) s[k]=false):=Lib.hid (by simp only [ix];rw [decide_eq_false (by omega)];rfl);go_wp2_with fail
        go_ret;exact ⟨cG (by rw [b.out];exact (qH (p:=fun c:UInt8=>ix c.toNat) (by rw [aJ];exact a) (by rw [g.out];exact d.out)).symm),rfl⟩
       ·by_cases r:(57:Int) < (s[k].toNat:Int)
        ·have d:Hid ((fun c:UInt8=>ix c.toNat) s[k]=false):=Lib.hid (by simp only [ix];rw [decide_eq_false (p:=(s[k].toNat:Int)≤57) (by omega),Bool.and_false]);go_wp2_with fail
         go_ret;exact ⟨cG (by rw [b.out];exact (qH (p:=fun c:UInt8=>ix c.toNat) (by rw [aJ];exact a) (by rw [g.out];exact d.out)).symm),rfl⟩
        ·have d:Hid ((fun c:UInt8=>ix c.toNat) s[k]=true):=Lib.hid (by simp only [ix];rw [decide_eq_true (by omega),decide_eq_true (by omega)];rfl);go_wp2_with fail
         exact ⟨⟨k+1,by omega,by go_num,Lib.hid (qj (p:=fun c:UInt8=>ix c.toNat) n.out g.out d.out)⟩,by simp [intOf];omega⟩
      ·go_wp2_with fail
       go_ret;exact ⟨cG (by rw [b.out];exact (yx (p:=fun c:UInt8=>ix c.toNat) (fun j h=>n.out j (by rw [aJ] at h;omega))).symm),rfl⟩
def EP (l:List UInt8):Nat:=l.foldl (fun n c=>10 * n+(c.toNat - 48)) 0
theorem mR:∀(l:List UInt8) (a:Nat),(∀c∈l,ix c.toNat=true)→Lib.decFrom a l=some (l.foldl (fun n c=>10 * n+(c.toNat - 48)) a)
 | [],a,_=>by simp [Lib.decFrom]
 | c::l,a,h=>by
  have b:=h c (List.mem_cons_self ..);unfold ix at b;simp only [Bool.and_eq_true,decide_eq_true_eq] at b;have d:Lib.digitVal c=some (c.toNat - 48):=by unfold Lib.digitVal;rw [if_pos (by omega)]
  rw [Lib.decFrom,d,List.foldl_cons];show Lib.decFrom (a * 10+(c.toNat - 48)) l=_;rw [mR l _ (fun x e=>h x (List.mem_cons_of_mem _ e)),Nat.mul_comm]
theorem rO {l:List UInt8} (h:oZ l=true):(1≤l.length∧l.length≤9)∧∀c∈l,ix c.toNat=true:=by
 unfold oZ at h;simp only [Bool.and_eq_true,decide_eq_true_eq,List.all_eq_true] at h;exact ⟨⟨h.1.1.1,h.1.1.2⟩,h.2⟩
theorem zZ {l:List UInt8} (h:oZ l=true):Lib.atoi l=some ((EP l:Nat):Int):=by
 obtain ⟨⟨d,_⟩,b⟩:=rO h
 cases l with
 | nil=>simp at d
 | cons c l=>
  have a:=b c (List.mem_cons_self ..);unfold ix at a;simp only [Bool.and_eq_true,decide_eq_true_eq] at a;have e:(c == 45)=false:=by rw [beq_eq_false_iff_ne];rintro rfl;simp at a
  have f:(c == 43)=false:=by rw [beq_eq_false_iff_ne];rintro rfl;simp at a
  unfold Lib.atoi;simp only [e,f,Bool.false_eq_true,if_false];unfold Lib.decNat;rw [show (c::l).isEmpty=false from rfl];simp only [Bool.false_eq_true,if_false];rw [mR _ _ b];rfl
def kT (l:List UInt8):Option Nat:=
 if l=[] then some 0 else match fu l [32,83,73,90,69,61] with | some d=>if oZ d then some (EP d) else none | none=>none
def Iw (o:Option Nat):Value:=
 match o with
 | some n=> .tuple #[.int .i64 (n:Int),.bool true]
 | none=> .tuple #[.int .i64 0,.bool false]
theorem wB {W:World} {e:TypeId} {x:ByteArray}:Below W.heap.size W (Lib.bytesWorld W e x):=
 ⟨by simp [Lib.bytesWorld,World.freeze,World.alloc,World.drew, -World.alloc_eq, -World.drew_eq],by simp [Lib.bytesWorld,World.freeze,World.alloc,World.drew, -World.alloc_eq, -World.drew_eq],by simp [Lib.bytesWorld,World.freeze,World.alloc,World.drew, -World.alloc_eq, -World.drew_eq],by rw [Lib.bytesWorld_size];omega,fun k a=>Lib.bytesWorld_at_old W e x k a⟩
theorem mQ {s p r:List UInt8} (h:fu s p=some r) (a:fp s):fp r∧r.length≤s.length:=by
 unfold fu at h
 split at h
 ·cases h
 ·split at h
  ·injection h with h;rw [←h];exact ⟨fun x b=>a x (List.mem_of_mem_drop b),by rw [List.length_drop];omega⟩
  ·cases h
theorem zu (l:List UInt8) (w:World) (s:l.length≤1048576) (k:fp l):
  Calls Tryz.prog 211 #[.string (bs l)] w fun e v=>e= .returned (Iw (kT l))∧Below w.heap.size w v:=by
 by_cases h:l=[]
 ·subst h;have q:Hid (kT []=some 0):=Lib.hid rfl;rw [show bs ([]:List UInt8)=⟨#[]⟩ from rfl];go_enter Tryz.func211,Tryz.ntmps211;go_wp2_with fail
  go_ret2
  exact ⟨by rw [q.out];rfl,Below.refl _ _⟩
 ·have u:((bs l).toList == [])=false:=by rw [beq_eq_false_iff_ne,ByteArray.toList_eq,aI];exact h
  have a:=Lib.hid (jK l [32,83,73,90,69,61] w s (by decide) k (by unfold fp;decide));have f:Hid (kT l=match fu l [32,83,73,90,69,61] with | some d=>if oZ d then some (EP d) else none | none=>none):=Lib.hid (by unfold kT;rw [if_neg h])
  cases c:fu l [32,83,73,90,69,61] with
  | none=>
   rw [c] at a f;have b:Hid (kT l=none):=Lib.hid f.out;clear c f h k;simp only [xz] at a;go_enter Tryz.func211,Tryz.ntmps211;go_wp2_with fail
   refine a.out.mono ?_;rintro e p ⟨rfl,rfl⟩;go_wp2_with fail
   go_ret2
   exact ⟨by rw [b.out];rfl,Below.refl _ _⟩
  | some d=>
   rw [c] at a f;have o:=mQ c k;simp only [xz] at a;have r:=aG d;have j:=Lib.hid (zg (bs d) w (by unfold maxLen;omega));rw [aI] at j
   cases g:oZ d with
   | false=>
    rw [g] at j;have b:Hid (kT l=none):=Lib.hid (by rw [f.out];simp only [];rw [g];rfl);clear c f h k o g;go_enter Tryz.func211,Tryz.ntmps211;go_wp2_with fail
    refine a.out.mono ?_;rintro e p ⟨rfl,rfl⟩;go_wp2_with (first | (go_at_call 248;refine j.out.mono ?_;rintro e x ⟨rfl,rfl⟩) | fail)
    go_ret2
    exact ⟨by rw [b.out];rfl,Below.refl _ _⟩
   | true=>
    rw [g] at j;have b:Hid (kT l=some (EP d)):=Lib.hid (by rw [f.out];simp only [];rw [g];rfl);have i:=Lib.hid (Tryz.strconv_Atoi (bs d) ((EP d:Nat):Int) (by have:=(rO g).1;omega) (by rw [aI];exact zZ g) w);obtain ⟨n,m⟩:∃n,EP d=n:=⟨_,rfl⟩;rw [m] at b i;clear c f h k o g m;go_enter Tryz.func211,Tryz.ntmps211;go_wp2_with fail
    refine a.out.mono ?_;rintro e p ⟨rfl,rfl⟩;go_wp2_with (first | (go_at_call 248;refine j.out.mono ?_;rintro e x ⟨rfl,rfl⟩) | fail)
    refine i.out.mono ?_;rintro e y ⟨rfl,t,rfl⟩;go_wp2_with fail
    go_quiet (fail)
    go_wp2_with fail
    go_ret2
    exact ⟨by rw [b.out];rfl,wB.trans (bA _ _ _)⟩
theorem sM (B b:Nat) (bs:List Value) (s:ByteArray) (w:World) (h:Lib.IsBuilderF 133 5 B b bs w) (a:bs.length+s.size≤140737488355328) (c:B≤w.heap.size):
  Calls Tryz.prog 96 #[.pointer (some ⟨b,0,none⟩),.string s] w fun e d=>e= .returned (.tuple #[.int .i64 s.size,.nilIface])∧(Lib.BuilderAtF 133 5 B b (.pointer (some ⟨b,0,none⟩)) (bs++Lib.strCells s) d∧Below B w d∧Lib.OthersKept 5 (some b) w d):=
 Any.Builder_WriteString_k {Tryz.lays159 with} Tryz.Builder_Extra_159 B b bs s w h a c
theorem pB (B b:Nat) (l:List UInt8) (w:World) (h:Lib.IsBuilderF 133 5 B b (Lib.byteCells l) w) (a:B≤w.heap.size):
  Calls Tryz.prog 64 #[.pointer (some ⟨b,0,none⟩)] w fun e c=>e= .returned (.string ⟨l.toArray⟩)∧(Lib.IsBuilderF 133 5 B b (Lib.byteCells l) c∧Below B w c∧Lib.OthersKept 5 (some b) w c):=
 Any.Builder_String_any_k Tryz.lays169 Tryz.Builder_Extra_169 B b l w h a
theorem om {T e:TypeId} {B b:Nat} {p:Value} {bs:List Value} {W g:World} (h:Lib.BuilderAtF T e B b p bs W) (a:Below W.heap.size W g):Lib.BuilderAtF T e B b p bs g:=by
 have d:=h.lt;obtain ⟨i,v,l,c,f⟩:=h;exact ⟨i,v,(a.block b d).trans l,c.kept (row:=none) ⟨a.os,a.tape,a.output,a.size,fun k j _=>a.block k j⟩ (Classical.em _),f⟩
theorem sy {T e:TypeId} {B b:Nat} {bs:List Value} {W a:World} (h:Lib.IsBuilderF T e B b bs W) (c:Below W.heap.size W a):Lib.IsBuilderF T e B b bs a:=
 h.elim (fun x=> .inl (om x c)) (fun x=> .inr (om x c))
def j5 (o:Option (List UInt8)) (w:World) (e:Ending) (w':World):Prop:=
 (match o with | some g=>e= .returned (.tuple #[.string ⟨g.toArray⟩,.bool true]) | none=>e= .returned (.tuple #[.string ⟨#[]⟩,.bool false]))∧Below w.heap.size w w'
theorem j5.yes {o:Option (List UInt8)} {w:World} {e:Ending} {a:World} (g:List UInt8) (h:o=some g) (b:e= .returned (.tuple #[.string ⟨g.toArray⟩,.bool true])) (c:Below w.heap.size w a):j5 o w e a:=by subst h;exact ⟨b,c⟩
theorem j5.no {o:Option (List UInt8)} {w:World} {e:Ending} {a:World} (h:o=none) (b:e= .returned (.tuple #[.string ⟨#[]⟩,.bool false])) (c:Below w.heap.size w a):j5 o w e a:=by subst h;exact ⟨b,c⟩
def Jy (v:Value):Nat:=match v with | .string t=>t.size | _=>0
def IZ (l:List UInt8) (w:World) (s:Value) (w':World):Prop:=
 ∃(t:ByteArray) (acc:List UInt8),s= .string t∧t.size % 4=0∧acc.length+t.size≤l.length∧kv l=(kv t.data.toList).map (acc++·)∧Lib.IsBuilderF 133 5 w.heap.size w.heap.size (Lib.byteCells acc) w'∧Below w.heap.size w w'∧w.heap.size < w'.heap.size
theorem pJ:∀l:List UInt8,l.length % 4≠0→kv l=none
 | [],h=>absurd rfl h
 | [_],_=>rfl
 | [_,_],_=>rfl
 | [_,_,_],_=>rfl
 | a::b::c::d::r,h=>by
  have:=pJ r (by simp at h;omega);rw [kv]
  split
  ·rfl
  ·split
   ·rfl
   ·rw [this]
theorem Jc {a b c d:UInt8} {g:List UInt8} (h:Gc a b c d=some g):1≤g.length∧g.length≤3:=by
 unfold Gc at h
 split at h
 ·split at h
  ·have:=(Kj h).2;omega
  ·have:=(Kk h).2;omega
 ·have:=(Kl h).2;omega
theorem rR (s:ByteArray) (w:World) (hs:s.size≤140737488355328):
  Calls Tryz.prog 209 #[.string s] w (j5 (kv s.data.toList) w):=by
 obtain ⟨O,L⟩:∃O,kv s.data.toList=O:=⟨_,rfl⟩;rw [L];have I:=Lib.hid L;clear L
 cases W:(((s.size:Int) % 4) != 0) with
 | true=>
  have q:Hid (O=none):=by
   show _=_;rw [←I.out];refine pJ _ ?_;have:¬(s.size:Int) % 4=0:=by simpa using W
   rw [aJ];omega
  go_enter Tryz.func209,Tryz.ntmps209;go_wp2
  go_ret2
  exact j5.no q.out rfl (Below.refl _ _)
 | false=>
  have S:(s.size:Int) % 4=0:=by simpa using W
  have Y:Hid (s.size % 4=0):=by show s.size % 4=0;omega
  clear S;go_enter Tryz.func209,Tryz.ntmps209;go_wp2
  go_loopw [0] (fun t w'=>IZ s.data.toList w t w') (fun t _=>Jy t)
  case atStart=>exact ⟨s,[],rfl,Y.out,by rw [aJ];simp,by simp,Lib.IsBuilderF.of (Lib.fresh_isBuilder 133 5 w),(Below.refl _ _).alloc (Nat.le_refl _) _,by simp⟩
  case round=>
   obtain ⟨t,f,rfl,a4,C,l,V,k,n⟩:=hrel;rw [aJ] at C;rw [I.out] at l;have H:=Lib.hid l;have F:=Lib.hid V;clear l V
   by_cases Z:t.size=0
   ·have X:Hid (O=some f):=by
     show _=_;rw [H.out]
     have:t.data.toList=[]:=by
      rw [←List.length_eq_zero_iff,aJ];exact Z
     rw [this];simp [kv]
    have N:=Nat.le_of_lt n;go_wp2_with fail
    refine (pB _ _ f _ F.out N).mono ?_;rintro e T ⟨rfl,_,j,_⟩;go_wp2_with fail
    go_ret2
    exact j5.yes f X.out rfl (k.trans j)
   ·have h4:4≤t.size:=by omega
    obtain ⟨a,b,c,d,r,B⟩:∃a b c d r,t.data.toList=a::b::c::d::r:=by
     have v:4≤t.data.toList.length:=by rw [aJ];exact h4
     match h:t.data.toList,v with
     | a::b::c::d::r,_=>exact ⟨a,b,c,d,r,rfl⟩
    have P:Hid ((t.extract 0 4).data.toList=[a,b,c,d]):=by
     show _=_;rw [Lib.extract_data,B];rfl
    have m:Hid ((t.extract 4 t.size).data.toList=r):=by
     show _=_;rw [Lib.extract_to_end,B];rfl
    have D:r.length+4=t.size:=by
     rw [←aJ t,B];rfl
    have p:Hid (O=(match Gc a b c d with | none=>none | some g=>if g.length < 3∧r≠[] then none else match kv r with | none=>none | some y=>some (g++y):Option (List UInt8)).map (f++·)):=by
     show _=_;rw [H.out,B];rfl
    clear B H;obtain ⟨J,A⟩:∃J,Gc a b c d=J:=⟨_,rfl⟩;have z:=Lib.hid A;clear A;have a0:(4:Int)≤(t.size:Int):=by omega
    go_wp2_with fail
    refine (wZ (t.extract 0 4) a b c d _ P.out).mono ?_;rw [z.out];rintro e T ⟨E,j⟩
    cases J with
    | none=>
     simp only at E;subst E;have q:Hid (O=none):=by show _=_;rw [p.out,z.out];rfl
     go_wp2_with fail
     go_ret2
     exact j5.no q.out rfl (k.trans (j.mono (Nat.le_of_lt n)))
    | some g=>
     simp only at E;subst E;have a2:=Jc z.out;have Q:(⟨g.toArray⟩:ByteArray).size=g.length:=by simp [ByteArray.size]
     by_cases i:g.length < 3∧r≠[]
     ·have q:Hid (O=none):=by
       show _=_;rw [p.out,z.out];simp only;rw [if_pos i];rfl
      have a1:((g.length:Int) < 3):=by omega
      have a3:(0:Int) < (t.size:Int) - 4:=by
       have:1≤r.length:=by
        cases r with
        | nil=>exact absurd rfl i.2
        | cons _ _=>simp
       omega
      go_wp2_with fail
      go_ret2
      exact j5.no q.out rfl (k.trans (j.mono (Nat.le_of_lt n)))
     ·have q:Hid (O=(kv r).map ((f++g)++·)):=by
       show _=_;rw [p.out,z.out];simp only;rw [if_neg i]
       cases kv r with
       | none=>rfl
       | some y=>simp
      have u:(3:Int)≤(g.length:Int)∨((g.length:Int) < 3∧¬0 < t.size - 4):=by
       by_cases U:3≤g.length
       ·left;omega
       ·right
        refine ⟨by omega,?_⟩
        have:r=[]:=by
         cases r with
         | nil=>rfl
         | cons x y=>exact absurd ⟨by omega,by simp⟩ i
        rw [this] at D;simp at D;omega
      have G:=Lib.hid (sy F.out j);have a5:wr.heap.size≤T.heap.size:=j.size
      have R:Hid ((Lib.byteCells f).length+(⟨g.toArray⟩:ByteArray).size≤140737488355328):=by
       show _≤_;rw [Lib.byteCells_length,Q];omega
      have K:w.heap.size≤T.heap.size:=by omega
      clear i F
      rcases u with U | ⟨U,hz⟩
      all_goals
       go_wp2_with fail
       refine (sM _ _ (Lib.byteCells f) ⟨g.toArray⟩ _ G.out R.out K).mono ?_;rintro e w2 ⟨rfl,M,o,_⟩;go_wp2_with fail
       refine ⟨⟨t.extract 4 t.size,f++g,rfl,?_,?_,?_,?_,?_,?_⟩,?_⟩
       ·rw [←aJ,m.out];omega
       ·rw [←aJ (t.extract 4 t.size),m.out,aJ];simp;omega
       ·rw [I.out,m.out,q.out]
       ·refine Or.inr ?_;have:Lib.byteCells (f++g)=Lib.byteCells f++Lib.strCells ⟨g.toArray⟩:=by simp [Lib.byteCells,Lib.strCells]
        rw [this];exact M
       ·exact (k.trans (j.mono (Nat.le_of_lt n))).trans o
       ·have:=o.size;omega
       ·show (t.extract 4 t.size).size < t.size;rw [←aJ,m.out];omega
structure J8 (w:World) (k:Nat):Prop where
 blk:w.heap[k]? =some (.cells #[.int .i64 0,.string ⟨#[]⟩,.int .i64 0,.string ⟨#[]⟩] 179 (0,0))
 c0:w.cell? ⟨k,0,none⟩=some (.int .i64 0)
 c1:w.cell? ⟨k,1,none⟩=some (.string ⟨#[]⟩)
 c2:w.cell? ⟨k,2,none⟩=some (.int .i64 0)
 c3:w.cell? ⟨k,3,none⟩=some (.string ⟨#[]⟩)
 f0:w.frozen? ⟨k,0,none⟩=false
 f1:w.frozen? ⟨k,1,none⟩=false
 f2:w.frozen? ⟨k,2,none⟩=false
 f3:w.frozen? ⟨k,3,none⟩=false
theorem rB {w:World} {k:Nat} (h:w.heap[k]? =some (.cells #[.int .i64 0,.string ⟨#[]⟩,.int .i64 0,.string ⟨#[]⟩] 179 (0,0))):J8 w k:=
 ⟨h,by rw [Lib.cell_of_heap h];rfl,by rw [Lib.cell_of_heap h];rfl,by rw [Lib.cell_of_heap h];rfl,by rw [Lib.cell_of_heap h];rfl,Lib.frozen_of_heap h 0,Lib.frozen_of_heap h 1,Lib.frozen_of_heap h 2,Lib.frozen_of_heap h 3⟩
def ry (arg:List UInt8):og:=
 match fu arg [80,76,65,73,78,32] with
 | some l=>(match kv l with | some b=>⟨8,[],0,b⟩ | none=>iI)
 | none=>iI
theorem EO:kv []=some []:=rfl
theorem zs (arg:List UInt8) (w:World) (T:arg.length≤1048576) (A:fp arg):
  Calls Tryz.prog 154 #[.string (bs arg)] w fun e V=>e= .returned (jo (ry arg))∧Below w.heap.size w V:=by
 obtain ⟨r,m⟩:∃r:World,w.alloc (.cells #[.int .i64 0,.string ⟨#[]⟩,.int .i64 0,.string ⟨#[]⟩] 179)=r:=⟨_,rfl⟩;have G:Below w.heap.size w r:=by rw [←m];exact (Below.refl _ _).alloc (Nat.le_refl _) _
 have H:r.heap[w.heap.size]? =some (.cells #[.int .i64 0,.string ⟨#[]⟩,.int .i64 0,.string ⟨#[]⟩] 179 (0,0)):=by rw [←m];exact heap_alloc_new w _
 have c:=Lib.hid (jK arg [80,76,65,73,78,32] r T (by decide) A (by unfold fp;decide));have n:Hid (ry arg=match fu arg [80,76,65,73,78,32] with | some l=>(match kv l with | some b=>⟨8,[],0,b⟩ | none=>iI) | none=>iI):=Lib.hid rfl;have f:=Lib.hid G;have q:=Lib.hid H;have p:=Lib.hid m;clear G H m
 cases g:fu arg [80,76,65,73,78,32] with
 | none=>
  rw [g] at c n;simp only [xz] at c;have i:Hid (ry arg=iI):=Lib.hid n.out;have d:=Lib.hid (rR ⟨#[]⟩ r (by decide));clear g n A;go_enter Tryz.func154,Tryz.ntmps154;go_wp2_with fail
  rw [p.out];refine c.out.mono ?_;rintro e R ⟨rfl,rfl⟩;go_wp2_with fail
  refine d.out.mono ?_;intro e S s;rw [EO] at s;obtain ⟨rfl,a⟩:=s;have t:=rB (ae a q.out);obtain ⟨o,I,J,K,L,M,N,O,P⟩:=t;have k:=Lib.hid o;have j:=Lib.hid (f.out.trans (a.mono f.out.size));clear o a d c;go_wp2_with fail
  obtain ⟨B,C,D,E,F⟩:=ia (x:= .int .i64 1) (y:= .string ⟨#[]⟩) (z:= .int .i64 0) (u:= .string ⟨#[]⟩) k.out;refine bodyPost_ret (v:= .agg #[.int .i64 1,.string ⟨#[]⟩,.int .i64 0,.string ⟨#[]⟩]) (by simp [results,Tryz.results154,go_sem,B,C,D,E]) rfl ?_;exact ⟨by rw [i.out];rfl,j.out.trans (F.below (Nat.le_refl _))⟩
 | some l=>
  rw [g] at c n;simp only [xz] at c;have Q:=mQ g A;have U:=aG l;have d:=Lib.hid (rR (bs l) r (by omega));rw [aI] at d
  cases h:kv l with
  | none=>
   rw [h] at d;have i:Hid (ry arg=iI):=Lib.hid (by rw [n.out];simp only [];rw [h]);clear g n A Q h;go_enter Tryz.func154,Tryz.ntmps154;go_wp2_with fail
   rw [p.out];refine c.out.mono ?_;rintro e R ⟨rfl,rfl⟩;go_wp2_with fail
   refine d.out.mono ?_;intro e S s;obtain ⟨rfl,a⟩:=s;have t:=rB (ae a q.out);obtain ⟨o,I,J,K,L,M,N,O,P⟩:=t;have k:=Lib.hid o;have j:=Lib.hid (f.out.trans (a.mono f.out.size));clear o a d c;go_wp2_with fail
   obtain ⟨B,C,D,E,F⟩:=ia (x:= .int .i64 1) (y:= .string ⟨#[]⟩) (z:= .int .i64 0) (u:= .string ⟨#[]⟩) k.out;refine bodyPost_ret (v:= .agg #[.int .i64 1,.string ⟨#[]⟩,.int .i64 0,.string ⟨#[]⟩]) (by simp [results,Tryz.results154,go_sem,B,C,D,E]) rfl ?_;exact ⟨by rw [i.out];rfl,j.out.trans (F.below (Nat.le_refl _))⟩
  | some b=>
   rw [h] at d;have i:Hid (ry arg=⟨8,[],0,b⟩):=Lib.hid (by rw [n.out];simp only [];rw [h]);clear g n A Q h;go_enter Tryz.func154,Tryz.ntmps154;go_wp2_with fail
   rw [p.out];refine c.out.mono ?_;rintro e R ⟨rfl,rfl⟩;go_wp2_with fail
   refine d.out.mono ?_;intro e S s;obtain ⟨rfl,a⟩:=s;have t:=rB (ae a q.out);obtain ⟨o,I,J,K,L,M,N,O,P⟩:=t;have k:=Lib.hid o;have j:=Lib.hid (f.out.trans (a.mono f.out.size));clear o a d c;go_wp2_with fail
   obtain ⟨B,C,D,E,F⟩:=ia (x:= .int .i64 8) (y:= .string ⟨#[]⟩) (z:= .int .i64 0) (u:= .string ⟨b.toArray⟩) k.out;refine bodyPost_ret (v:= .agg #[.int .i64 8,.string ⟨#[]⟩,.int .i64 0,.string ⟨b.toArray⟩]) (by simp [results,Tryz.results154,go_sem,B,C,D,E]) rfl ?_;exact ⟨by rw [i.out];rfl,j.out.trans (F.below (Nat.le_refl _))⟩
def gV (o:Option (List UInt8)):List UInt8:=match o with | some r=>r | none=>[]
def JU (o:Option (List UInt8)):Value:= .tuple #[.string (bs (gV o)),.bool o.isSome]
theorem Aq (o:Option (List UInt8)):xz o=JU o:=by cases o <;> rfl
def Mf (arg:List UInt8):og:=
 let o:=fu arg [84,79,58,60]
 if o.isSome && Lib.hasSuffix (gV o) [62] && (jb (Lib.trimSuffix (gV o) [62])).2 then ⟨10,dY (Lib.trimSuffix (gV o) [62]),0,[]⟩ else iI
theorem qw {arg p:List UInt8} (a:fp arg):fp (gV (fu arg p))∧(gV (fu arg p)).length≤arg.length:=by
 cases h:fu arg p with
 | none=>exact ⟨(fun x b=>by cases b),Nat.zero_le _⟩
 | some r=>exact mQ h a
theorem xm (l p:List UInt8):(Lib.trimSuffix l p).length≤l.length:=by
 unfold Lib.trimSuffix
 split
 ·rw [List.length_take];omega
 ·exact Nat.le_refl _
theorem zt (arg:List UInt8) (m:Int) (w:World) (hl:arg.length≤1048576) (M:fp arg) (O:w.cell? ⟨0,0,none⟩=some (.int .i64 m)):
  Calls Tryz.prog 156 #[.string (bs arg)] w fun e V=>e= .returned (jo (Mf arg))∧Below w.heap.size w V:=by
 obtain ⟨i,k⟩:∃i:World,w.alloc (.cells #[.int .i64 0,.string ⟨#[]⟩,.int .i64 0,.string ⟨#[]⟩] 179)=i:=⟨_,rfl⟩;have H:Below w.heap.size w i:=by rw [←k];exact (Below.refl _ _).alloc (Nat.le_refl _) _
 have W:i.heap[w.heap.size]? =some (.cells #[.int .i64 0,.string ⟨#[]⟩,.int .i64 0,.string ⟨#[]⟩] 179 (0,0)):=by rw [←k];exact heap_alloc_new w _
 have m0:=(H.cell (eI O)).trans O;have h:=jK arg [84,79,58,60] i hl (by decide) M (by unfold fp;decide);rw [Aq] at h;have F:=qw (p:=[84,79,58,60]) M;have l:Hid (Mf arg=if (fu arg [84,79,58,60]).isSome && Lib.hasSuffix (gV (fu arg [84,79,58,60])) [62] && (jb (Lib.trimSuffix (gV (fu arg [84,79,58,60])) [62])).2 then ⟨10,dY (Lib.trimSuffix (gV (fu arg [84,79,58,60])) [62]),0,[]⟩ else iI):=Lib.hid rfl;unfold JU at h;obtain ⟨c,Y⟩:∃b,(fu arg [84,79,58,60]).isSome=b:=⟨_,rfl⟩;obtain ⟨f,K⟩:∃r,gV (fu arg [84,79,58,60])=r:=⟨_,rfl⟩;rw [Y,K] at h l;rw [K] at F;have a0:=aG f;have j:=Tryz.strings_CutSuffix (bs f) ⟨#[62]⟩ i (by omega);rw [aI,show (⟨#[62]⟩:ByteArray).data.toList=[62] from rfl] at j;have G:=xm f [62];obtain ⟨a,Z⟩:∃b,Lib.hasSuffix f [62]=b:=⟨_,rfl⟩;obtain ⟨g,L⟩:∃r,Lib.trimSuffix f [62]=r:=⟨_,rfl⟩;rw [Z,L] at j l;rw [L] at G;have o:=oL g m i (by omega) m0;obtain ⟨s,e5⟩:∃b,(jb g).2=b:=⟨_,rfl⟩;obtain ⟨P,e6⟩:∃r,dY g=r:=⟨_,rfl⟩;rw [e5,e6] at o l;have C:=Lib.hid h;have D:Hid (Calls Tryz.prog 212 #[.string (bs f),.string ⟨#[62]⟩] i fun e V=>e= .returned (.tuple #[.string (bs g),.bool a])∧V=i):=Lib.hid j;have t:=Lib.hid o;have A:=Lib.hid H;have J:=Lib.hid W;have I:=Lib.hid k;clear H W k O m0 h j o Y K Z L e5 e6 F G M;go_enter Tryz.func156,Tryz.ntmps156;go_wp2_with fail
 rw [I.out];refine C.out.mono ?_;rintro e w1 ⟨rfl,rfl⟩;go_wp2_with fail
 refine D.out.mono ?_;rintro e w2 ⟨rfl,rfl⟩;go_wp2_with fail
 refine t.out.mono ?_;rintro e w3 ⟨rfl,q⟩;obtain ⟨X,c0,c1,c2,c3,f0,f1,f2,f3⟩:=rB (ae q J.out);have E:=Lib.hid X;have B:=Lib.hid (A.out.trans (q.mono A.out.size));clear X q t D C
 by_cases d:(c && a && s)=true
 ·have n:Hid (Mf arg=⟨10,P,0,[]⟩):=Lib.hid (by rw [l.out,if_pos d]);simp only [Bool.and_eq_true] at d;obtain ⟨⟨rfl,rfl⟩,rfl⟩:=d;clear l;go_wp2_with fail
  obtain ⟨Q,R,S,T,U⟩:=ia (x:= .int .i64 10) (y:= .string (bs P)) (z:= .int .i64 0) (u:= .string ⟨#[]⟩) E.out;refine bodyPost_ret (v:= .agg #[.int .i64 10,.string (bs P),.int .i64 0,.string ⟨#[]⟩]) (by simp [results,Tryz.results156,go_sem,Q,R,S,T]) rfl ?_;exact ⟨by rw [n.out];rfl,B.out.trans (U.below (Nat.le_refl _))⟩
 ·have n:Hid (Mf arg=iI):=Lib.hid (by rw [l.out,if_neg d])
  have N:c=false∨(c=true∧a=false)∨(c=true∧a=true∧s=false):=by
   cases c <;> cases a <;> cases s <;> simp at d ⊢
  clear l d
  rcases N with rfl | ⟨rfl,rfl⟩ | ⟨rfl,rfl,rfl⟩
  all_goals
   go_wp2_with fail
   obtain ⟨Q,R,S,T,U⟩:=ia (x:= .int .i64 1) (y:= .string ⟨#[]⟩) (z:= .int .i64 0) (u:= .string ⟨#[]⟩) E.out;refine bodyPost_ret (v:= .agg #[.int .i64 1,.string ⟨#[]⟩,.int .i64 0,.string ⟨#[]⟩]) (by simp [results,Tryz.results156,go_sem,Q,R,S,T]) rfl ?_;exact ⟨by rw [n.out];rfl,B.out.trans (U.below (Nat.le_refl _))⟩
theorem Ix (o:Option Nat):Iw o= .tuple #[.int .i64 ((o.getD 0:Nat):Int),.bool o.isSome]:=by cases o <;> rfl
def uJ (arg:List UInt8):og:=
 let o:=fu arg [70,82,79,77,58,60]
 let x:=cz 62 (gV o)
 if o.isSome && x.2.2 && ((jb x.1).2 || x.1.isEmpty) && (kT x.2.1).isSome then ⟨9,dY x.1,(kT x.2.1).getD 0,[]⟩ else iI
theorem ub (c:UInt8) (l x y:List UInt8) (f:Bool) (h:cz c l=(x,y,f)):(∀a∈x,a∈l)∧∀a∈y,a∈l:=by
 cases d:(cz c l).2.2 with
 | true=>
  have:=(lL c l d).1;rw [h] at this;simp only at this;rw [this];exact ⟨fun a b=>List.mem_append_left _ b,fun a b=>List.mem_append_right _ (List.mem_cons_of_mem _ b)⟩
 | false=>
  have:=(lu c l d).1;rw [h] at this;injection this with e1 e2;injection e2 with e2 _;subst e1 e2;exact ⟨fun a b=>b,fun a b=>by cases b⟩
theorem xf (arg:List UInt8) (m:Int) (w:World) (hl:arg.length≤1048576) (R:fp arg) (hm:w.cell? ⟨0,0,none⟩=some (.int .i64 m)):
  Calls Tryz.prog 155 #[.string (bs arg)] w fun e w'=>e= .returned (jo (uJ arg))∧Below w.heap.size w w':=by
 obtain ⟨j,t⟩:∃j:World,w.alloc (.cells #[.int .i64 0,.string ⟨#[]⟩,.int .i64 0,.string ⟨#[]⟩] 179)=j:=⟨_,rfl⟩;have U:Below w.heap.size w j:=by rw [←t];exact (Below.refl _ _).alloc (Nat.le_refl _) _
 have X0:j.heap[w.heap.size]? =some (.cells #[.int .i64 0,.string ⟨#[]⟩,.int .i64 0,.string ⟨#[]⟩] 179 (0,0)):=by rw [←t];exact heap_alloc_new w _
 have m0:=(U.cell (eI hm)).trans hm;have l:=jK arg [70,82,79,77,58,60] j hl (by decide) R (by unfold fp;decide);rw [Aq] at l;have H:=qw (p:=[70,82,79,77,58,60]) R;have o:Hid (uJ arg=if (fu arg [70,82,79,77,58,60]).isSome && (cz 62 (gV (fu arg [70,82,79,77,58,60]))).2.2 && ((jb (cz 62 (gV (fu arg [70,82,79,77,58,60]))).1).2 || (cz 62 (gV (fu arg [70,82,79,77,58,60]))).1.isEmpty) && (kT (cz 62 (gV (fu arg [70,82,79,77,58,60]))).2.1).isSome then ⟨9,dY (cz 62 (gV (fu arg [70,82,79,77,58,60]))).1,(kT (cz 62 (gV (fu arg [70,82,79,77,58,60]))).2.1).getD 0,[]⟩ else iI):=Lib.hid rfl;unfold JU at l;obtain ⟨c,e1⟩:∃b,(fu arg [70,82,79,77,58,60]).isSome=b:=⟨_,rfl⟩;obtain ⟨B,Z⟩:∃r,gV (fu arg [70,82,79,77,58,60])=r:=⟨_,rfl⟩;rw [e1,Z] at l o;rw [Z] at H;have a2:=aG B;have N:=Lib.hid (jB (bs B) 62 j (by unfold maxLen;omega));have O:=Lib.hid m0;have P:=Lib.hid H;have M:=Lib.hid l;have K:=Lib.hid U;have Y:=Lib.hid X0;have X:=Lib.hid t;clear U X0 t hm m0 l e1 Z H R;go_enter Tryz.func155,Tryz.ntmps155;go_wp2_with fail
 rw [X.out];refine M.out.mono ?_;rintro e w1 ⟨rfl,rfl⟩;go_wp2_with fail
 refine N.out.mono ?_;rintro e w2 ⟨x,y,d,rfl,I,n,rfl⟩;rw [aI] at I;obtain ⟨f,rfl⟩:∃r,x=bs r:=⟨x.data.toList,rfl⟩;obtain ⟨g,rfl⟩:∃r,y=bs r:=⟨y.data.toList,rfl⟩;rw [aI,aI] at I;rw [I] at o;simp only at o;have a0:=sX 62 _ _ _ _ I;have k:=ub 62 _ _ _ _ I;have a1:=P.out.2;have G:=oL f m (j.drewN n) (by omega) (((bA n j j.heap.size).cell (eI O.out)).trans O.out);obtain ⟨i,e5⟩:∃b,(jb f).2=b:=⟨_,rfl⟩;obtain ⟨kp,e6⟩:∃r,dY f=r:=⟨_,rfl⟩;rw [e5,e6] at G o;have s:Hid (∀W:World,Calls Tryz.prog 211 #[.string (bs g)] W fun e w'=>e= .returned (Iw (kT g))∧Below W.heap.size W w'):=Lib.hid (fun W=>zu g W (by omega) (fun a R=>P.out.1 a (k.2 a R)));rw [Ix] at s;obtain ⟨A,e7⟩:∃b,(kT g).isSome=b:=⟨_,rfl⟩;obtain ⟨sz,e8⟩:∃r,(kT g).getD 0=r:=⟨_,rfl⟩;rw [e7,e8] at s o;have J:=Lib.hid G;clear I a0 k a1 G e5 e6 e7 e8 N M;go_wp2_with fail
 refine J.out.mono ?_;rintro e w3 ⟨rfl,S⟩;have C:=Lib.hid S;clear S;go_wp2_with fail
 refine (s.out w3).mono ?_;rintro e w4 ⟨rfl,T⟩;have V:Below j.heap.size j w4:=(bA n j j.heap.size).trans ((C.out.mono (by simp)).trans (T.mono (by have:=C.out.size;simp at this;exact this)));obtain ⟨X1,c0,c1,c2,c3,f0,f1,f2,f3⟩:=rB (ae V Y.out);have Q:=Lib.hid X1;have L:=Lib.hid (K.out.trans (V.mono K.out.size));obtain ⟨F,E⟩:∃b,f.isEmpty=b:=⟨_,rfl⟩
 have q:Hid (F=true ↔ (bs f).toList=[]):=Lib.hid (by
  rw [ByteArray.toList_eq,aI,←E]
  cases f <;> simp)
 rw [E] at o;clear X1 T J s V C E
 by_cases h:(c && d && (i || F) && A)=true
 ·have D:Hid (uJ arg=⟨9,kp,sz,[]⟩):=Lib.hid (by rw [o.out,if_pos h]);simp only [Bool.and_eq_true] at h;obtain ⟨⟨⟨rfl,rfl⟩,h3⟩,rfl⟩:=h;have k:i=true∨(i=false∧F=true):=by cases i <;> cases F <;> simp at h3 ⊢
  clear o h3
  rcases k with rfl | ⟨rfl,rfl⟩
  all_goals
   try (have hE:(bs f).toList=[]:=q.out.1 rfl)
   try (have hE:¬(bs f).toList=[]:=fun e=>Bool.false_ne_true (q.out.2 e))
   go_wp2_with fail
   obtain ⟨r0,r1,r2,r3,rS⟩:=ia (x:= .int .i64 9) (y:= .string (bs kp)) (z:= .int .i64 (sz:Int)) (u:= .string ⟨#[]⟩) Q.out;refine bodyPost_ret (v:= .agg #[.int .i64 9,.string (bs kp),.int .i64 (sz:Int),.string ⟨#[]⟩]) (by simp [results,Tryz.results155,go_sem,r0,r1,r2,r3]) rfl ?_;exact ⟨by rw [D.out];rfl,L.out.trans (rS.below (Nat.le_refl _))⟩
 ·have D:Hid (uJ arg=iI):=Lib.hid (by rw [o.out,if_neg h])
  have k:c=false∨(c=true∧d=false)∨(c=true∧d=true∧i=false∧F=false)∨(c=true∧d=true∧i=true∧A=false)∨(c=true∧d=true∧i=false∧F=true∧A=false):=by
   cases c <;> cases d <;> cases i <;> cases F <;> cases A <;> simp at h ⊢
  clear o h
  rcases k with rfl | ⟨rfl,rfl⟩ | ⟨rfl,rfl,rfl,rfl⟩ | ⟨rfl,rfl,rfl,rfl⟩ | ⟨rfl,rfl,rfl,rfl,rfl⟩
  all_goals
   try (have hE:(bs f).toList=[]:=q.out.1 rfl)
   try (have hE:¬(bs f).toList=[]:=fun e=>Bool.false_ne_true (q.out.2 e))
   go_wp2_with fail
   obtain ⟨r0,r1,r2,r3,rS⟩:=ia (x:= .int .i64 1) (y:= .string ⟨#[]⟩) (z:= .int .i64 0) (u:= .string ⟨#[]⟩) Q.out;refine bodyPost_ret (v:= .agg #[.int .i64 1,.string ⟨#[]⟩,.int .i64 0,.string ⟨#[]⟩]) (by simp [results,Tryz.results155,go_sem,r0,r1,r2,r3]) rfl ?_;exact ⟨by rw [D.out];rfl,L.out.trans (rS.below (Nat.le_refl _))⟩
def JM:List (List UInt8):=[[81,85,73,84],[78,79,79,80],[82,83,69,84],[68,65,84,65],[72,69,76,79],[69,72,76,79],[65,85,84,72],[77,65,73,76],[82,67,80,84]]
def Ed (W:List UInt8) (arg:List UInt8) (has:Bool):og:=
 if W=[81,85,73,84] then la 2 has
 else if W=[78,79,79,80] then la 3 has
 else if W=[82,83,69,84] then la 4 has
 else if W=[68,65,84,65] then la 5 has
 else if W=[72,69,76,79] then mW 6 arg
 else if W=[69,72,76,79] then mW 7 arg
 else if W=[65,85,84,72] then ry arg
 else if W=[77,65,73,76] then uJ arg
 else if W=[82,67,80,84] then Mf arg
 else rJ 0
def bn (text:List UInt8) (bad:Bool):og:=if bad then rJ 0 else Ed (Lib.toUpperA (cz 32 text).1) (cz 32 text).2.1 (cz 32 text).2.2
theorem Al (a:List UInt8) (w:World):Calls Tryz.prog 103 #[.agg #[.string (bs a),.bool true]] w fun e l=>e= .returned (jo (bn a true))∧Below w.heap.size w l:=by
 have g:Hid (bn a true=rJ 0):=Lib.hid rfl;go_enter Tryz.func103,Tryz.ntmps103;go_wp2_with fail
 obtain ⟨c,b⟩:∃c:World,w.alloc (.cells #[.string (bs a),.bool true] 138)=c:=⟨_,rfl⟩;have d:c.heap.size=w.heap.size+1:=by rw [←b];simp
 have f:Below w.heap.size w c:=by rw [←b];exact (Below.refl _ _).alloc (Nat.le_refl _) _
 rw [b];have X:=heap_alloc_new c (.cells #[.int .i64 0,.string ⟨#[]⟩,.int .i64 0,.string ⟨#[]⟩] 179);rw [d] at X;obtain ⟨_,h,i,j,k,_⟩:=rB X;refine bodyPost_ret (v:= .agg #[.int .i64 0,.string ⟨#[]⟩,.int .i64 0,.string ⟨#[]⟩]) (by simp [results,Tryz.results103,go_sem,h,i,j,k]) rfl ?_;exact ⟨by rw [g.out];rfl,f.alloc f.size _⟩
theorem yq (a:List UInt8) (w:World) (g:a.length≤1048576) (c:fp a):Calls Tryz.prog 151 #[.string (bs a)] w fun e f=>e= .returned (.string (bs (Lib.toUpperA a)))∧Below w.heap.size w f:=by
 have h:=aG a;exact Tryz.strings_ToUpper_ascii (bs a) w (by omega) (fun j b d=>c b (List.mem_of_getElem? d))
def JO (V arg:List UInt8) (has:Bool) (kx:og):Prop:=bs V=⟨#[81,85,73,84]⟩∧la 2 has=kx∨bs V=⟨#[78,79,79,80]⟩∧la 3 has=kx∨bs V=⟨#[82,83,69,84]⟩∧la 4 has=kx∨bs V=⟨#[68,65,84,65]⟩∧la 5 has=kx∨bs V=⟨#[72,69,76,79]⟩∧mW 6 arg=kx∨bs V=⟨#[69,72,76,79]⟩∧mW 7 arg=kx∨bs V=⟨#[65,85,84,72]⟩∧ry arg=kx∨bs V=⟨#[77,65,73,76]⟩∧uJ arg=kx∨bs V=⟨#[82,67,80,84]⟩∧Mf arg=kx
theorem fA (b:List UInt8) (m:Int) (w:World) (hl:b.length≤1048576) (A:fp b) (X:w.cell? ⟨0,0,none⟩=some (.int .i64 m)) {V:List UInt8} {h:og} (hW:Lib.toUpperA (cz 32 b).1=V) (M:JO V (cz 32 b).2.1 (cz 32 b).2.2 h):Calls Tryz.prog 103 #[.agg #[.string (bs b),.bool false]] w fun e w'=>e= .returned (jo h)∧Below w.heap.size w w':=by
 obtain ⟨l,q⟩:∃l:World,w.alloc (.cells #[.string (bs b),.bool false] 138)=l:=⟨_,rfl⟩;have N:Below w.heap.size w l:=by rw [←q];exact (Below.refl _ _).alloc (Nat.le_refl _) _
 have Y:l.heap.size=w.heap.size+1:=by rw [←q];simp
 have L0:l.heap[w.heap.size]? =some (.cells #[.string (bs b),.bool false] 138 (0,0)):=by rw [←q];exact heap_alloc_new w _
 obtain ⟨d,F⟩:∃d:World,l.alloc (.cells #[.int .i64 0,.string ⟨#[]⟩,.int .i64 0,.string ⟨#[]⟩] 179)=d:=⟨_,rfl⟩;have O:Below l.heap.size l d:=by rw [←F];exact (Below.refl _ _).alloc (Nat.le_refl _) _
 have X1:d.heap[w.heap.size+1]? =some (.cells #[.int .i64 0,.string ⟨#[]⟩,.int .i64 0,.string ⟨#[]⟩] 179 (0,0)):=by rw [←F,←Y];exact heap_alloc_new l _
 have U:=ae O L0;have l0:d.cell? ⟨w.heap.size,0,none⟩=some (.string (bs b)):=by rw [Lib.cell_of_heap U];rfl
 have l1:d.cell? ⟨w.heap.size,1,none⟩=some (.bool false):=by rw [Lib.cell_of_heap U];rfl
 have p:Below w.heap.size w d:=N.trans (O.mono N.size);have a0:=aG b;have E:=Lib.hid (jB (bs b) 32 d (by unfold maxLen;omega));have HM:=Lib.hid ((p.cell (eI X)).trans X);have P:=Lib.hid A;have C:=Lib.hid p;have R:=Lib.hid X1;have L:=Lib.hid hW;have K:=Lib.hid M;clear N L0 O X1 U X A p hW M;go_enter Tryz.func103,Tryz.ntmps103;go_wp2_with fail
 refine E.out.mono ?_;rintro e w2 ⟨x,y,o,rfl,B,n,rfl⟩;rw [aI] at B;obtain ⟨I,rfl⟩:∃r,x=bs r:=⟨x.data.toList,rfl⟩;obtain ⟨arg,rfl⟩:∃r,y=bs r:=⟨y.data.toList,rfl⟩;rw [aI,aI] at B;have W:=sX 32 _ _ _ _ B;have t:=ub 32 _ _ _ _ B;have k:=Lib.hid (yq I (d.drewN n) (by omega) (fun a A=>P.out a (t.1 a A)));have c:Hid (fp arg∧arg.length≤1048576):=Lib.hid ⟨fun a A=>P.out a (t.2 a A),by omega⟩
 rw [B] at L K;simp only at L K;have H:=L.out;rw [H] at k;have M:=K.out;clear B W t E P K L H
 rcases M with ⟨f,g⟩ | ⟨f,g⟩ | ⟨f,g⟩ | ⟨f,g⟩ | ⟨f,g⟩ | ⟨f,g⟩ | ⟨f,g⟩ | ⟨f,g⟩ | ⟨f,g⟩
 all_goals
  rw [f] at k;have Z:=Lib.hid g;clear f g;go_wp2_with fail
  refine k.out.mono ?_;rintro e i ⟨rfl,G⟩;have J:Below d.heap.size d i:=(bA n d d.heap.size).trans (G.mono (by simp));have D:=Lib.hid (C.out.trans (J.mono C.out.size));have S:=Lib.hid (ae J R.out);have j:=Lib.hid ((J.cell (eI HM.out)).trans HM.out);clear G J k;go_wp2_with fail
 refine (j9 2 o i).mono ?_
 rotate_left
 refine (j9 3 o i).mono ?_
 rotate_left
 refine (j9 4 o i).mono ?_
 rotate_left
 refine (j9 5 o i).mono ?_
 rotate_left
 refine (oC 6 arg m i c.out.2 j.out).mono ?_
 rotate_left
 refine (oC 7 arg m i c.out.2 j.out).mono ?_
 rotate_left
 refine (zs arg i c.out.2 c.out.1).mono ?_
 rotate_left
 refine (xf arg m i c.out.2 c.out.1 j.out).mono ?_
 rotate_left
 refine (zt arg m i c.out.2 c.out.1 j.out).mono ?_
 rotate_left
 all_goals
  rintro e w4 ⟨rfl,s⟩;rw [Z.out];simp only [jo];obtain ⟨X4,c0,c1,c2,c3,f0,f1,f2,f3⟩:=rB (ae s S.out);have T:=Lib.hid X4;have Q:=Lib.hid (D.out.trans (s.mono D.out.size));clear X4 s Z;go_wp2_with fail
  obtain ⟨r0,r1,r2,r3,rS⟩:=ia (x:= .int .i64 (h.verb:Int)) (y:= .string (bs h.name)) (z:= .int .i64 (h.size:Int)) (u:= .string (bs h.shown)) T.out;refine bodyPost_ret (v:= .agg #[.int .i64 (h.verb:Int),.string (bs h.name),.int .i64 (h.size:Int),.string (bs h.shown)]) (by simp [results,Tryz.results103,go_sem,r0,r1,r2,r3]) rfl ?_;exact ⟨rfl,Q.out.trans (rS.below (Nat.le_succ _))⟩
theorem yL (b:List UInt8) (m:Int) (w:World) (hl:b.length≤1048576) (l:fp b) (K:w.cell? ⟨0,0,none⟩=some (.int .i64 m)) (R:Lib.toUpperA (cz 32 b).1 ∉ JM):Calls Tryz.prog 103 #[.agg #[.string (bs b),.bool false]] w fun e w'=>e= .returned (jo (rJ 0))∧Below w.heap.size w w':=by
 obtain ⟨f,j⟩:∃f:World,w.alloc (.cells #[.string (bs b),.bool false] 138)=f:=⟨_,rfl⟩;have B:Below w.heap.size w f:=by rw [←j];exact (Below.refl _ _).alloc (Nat.le_refl _) _
 have L:f.heap.size=w.heap.size+1:=by rw [←j];simp
 have N:f.heap[w.heap.size]? =some (.cells #[.string (bs b),.bool false] 138 (0,0)):=by rw [←j];exact heap_alloc_new w _
 obtain ⟨c,s⟩:∃c:World,f.alloc (.cells #[.int .i64 0,.string ⟨#[]⟩,.int .i64 0,.string ⟨#[]⟩] 179)=c:=⟨_,rfl⟩;have C:Below f.heap.size f c:=by rw [←s];exact (Below.refl _ _).alloc (Nat.le_refl _) _
 have O:c.heap[w.heap.size+1]? =some (.cells #[.int .i64 0,.string ⟨#[]⟩,.int .i64 0,.string ⟨#[]⟩] 179 (0,0)):=by rw [←s,←L];exact heap_alloc_new f _
 have I:=ae C N;have l0:c.cell? ⟨w.heap.size,0,none⟩=some (.string (bs b)):=by rw [Lib.cell_of_heap I];rfl
 have l1:c.cell? ⟨w.heap.size,1,none⟩=some (.bool false):=by rw [Lib.cell_of_heap I];rfl
 have h:Below w.heap.size w c:=B.trans (C.mono B.size);have W:=aG b;have q:=Lib.hid (jB (bs b) 32 c (by unfold maxLen;omega));have M:=Lib.hid ((h.cell (eI K)).trans K);have D:=Lib.hid l;have p:=Lib.hid h;have F:=Lib.hid O;have d:=Lib.hid R;clear B N C O I K l h R;go_enter Tryz.func103,Tryz.ntmps103;go_wp2_with fail
 refine q.out.mono ?_;rintro e w2 ⟨x,y,V,rfl,o,n,rfl⟩;rw [aI] at o;obtain ⟨g,rfl⟩:∃r,x=bs r:=⟨x.data.toList,rfl⟩;obtain ⟨arg,rfl⟩:∃r,y=bs r:=⟨y.data.toList,rfl⟩;rw [aI,aI] at o;have J:=sX 32 _ _ _ _ o;have k:=ub 32 _ _ _ _ o;have i:=Lib.hid (yq g (c.drewN n) (by omega) (fun a l=>D.out a (k.1 a l)));have S:Hid (fp arg∧arg.length≤1048576):=Lib.hid ⟨fun a l=>D.out a (k.2 a l),by omega⟩
 rw [o] at d;simp only at d;obtain ⟨U,Q⟩:∃U,Lib.toUpperA g=U:=⟨_,rfl⟩;rw [Q] at d i;have n0:((bs U).toList == [81,85,73,84])=false:=by rw [beq_eq_false_iff_ne,ByteArray.toList_eq,aI];exact fun e=>d.out (by rw [e];decide)
 have n1:((bs U).toList == [78,79,79,80])=false:=by rw [beq_eq_false_iff_ne,ByteArray.toList_eq,aI];exact fun e=>d.out (by rw [e];decide)
 have n2:((bs U).toList == [82,83,69,84])=false:=by rw [beq_eq_false_iff_ne,ByteArray.toList_eq,aI];exact fun e=>d.out (by rw [e];decide)
 have n3:((bs U).toList == [68,65,84,65])=false:=by rw [beq_eq_false_iff_ne,ByteArray.toList_eq,aI];exact fun e=>d.out (by rw [e];decide)
 have n4:((bs U).toList == [72,69,76,79])=false:=by rw [beq_eq_false_iff_ne,ByteArray.toList_eq,aI];exact fun e=>d.out (by rw [e];decide)
 have n5:((bs U).toList == [69,72,76,79])=false:=by rw [beq_eq_false_iff_ne,ByteArray.toList_eq,aI];exact fun e=>d.out (by rw [e];decide)
 have n6:((bs U).toList == [65,85,84,72])=false:=by rw [beq_eq_false_iff_ne,ByteArray.toList_eq,aI];exact fun e=>d.out (by rw [e];decide)
 have n7:((bs U).toList == [77,65,73,76])=false:=by rw [beq_eq_false_iff_ne,ByteArray.toList_eq,aI];exact fun e=>d.out (by rw [e];decide)
 have n8:((bs U).toList == [82,67,80,84])=false:=by rw [beq_eq_false_iff_ne,ByteArray.toList_eq,aI];exact fun e=>d.out (by rw [e];decide)
 clear Q;clear o J k q D;go_wp2_with fail
 refine i.out.mono ?_;rintro e w3 ⟨rfl,t⟩;have A:Below c.heap.size c w3:=(bA n c c.heap.size).trans (t.mono (by simp));have E:=Lib.hid (p.out.trans (A.mono p.out.size));have G:=Lib.hid (ae A F.out);have T:=Lib.hid ((A.cell (eI M.out)).trans M.out);clear t A i;obtain ⟨P,c0,c1,c2,c3,f0,f1,f2,f3⟩:=rB G.out;have H:=Lib.hid P;clear P;go_wp2_with fail
 obtain ⟨X,Y,Z,r3,rS⟩:=ia (x:= .int .i64 0) (y:= .string ⟨#[]⟩) (z:= .int .i64 0) (u:= .string ⟨#[]⟩) H.out;refine bodyPost_ret (v:= .agg #[.int .i64 0,.string ⟨#[]⟩,.int .i64 0,.string ⟨#[]⟩]) (by simp [results,Tryz.results103,go_sem,X,Y,Z,r3]) rfl ?_;exact ⟨rfl,E.out.trans (rS.below (Nat.le_succ _))⟩
structure Kb (w0:World) (b0:Nat) (C:Array Value) (W:World) (v:Value) (a:List UInt8):Prop where
 wr:WR w0.heap.size w0 W v a
 ne:v.ownBlock≠some b0
 blk:W.heap[b0]? =some (.cells C 193 (0,0))
theorem Kb.step {l W c:World} {b:Nat} {C:Array Value} {v f:Value} {a g:List UInt8} (h:Kb l b C W v a) (m:dT c f g) (i:aH (fun k=>v.ownBlock=some k) W c) (j:∀k,f.ownBlock=some k→v.ownBlock=some k∨W.heap.size≤k):Kb l b C c f g:=by
 have d:b < W.heap.size:=ah h.blk;refine ⟨h.wr.step (Nat.le_refl _) m i j,fun e=>?_,(i.block b d h.ne).trans h.blk⟩
 rcases j _ e with e | e
 ·exact h.ne e
 ·omega
theorem kM (s w:World) (v vp:Value) (c:List UInt8) (d:Nat) (a:List Nat) (r:WR s.heap.size s w v c) (hp:bg s vp a.length 1 (aZ a)) (hl:c.length≤1000) (W:d≤4294967295) (hn:a.length≤100) (D:∀x∈a,x≤255):
  Calls Tryz.prog 175 #[v,.agg #[.int .i64 d,vp]] w fun e w'=>∃v',e= .returned v'∧WR s.heap.size s w' v' (c++aM d a):=by
 obtain ⟨t,u,rfl,f⟩:=hp.one;have HV:=Lib.hid f;have M:=Lib.hid D;have Z:=r.below.size;obtain ⟨o,z⟩:∃o:World,w.alloc (.cells #[.int .i64 d,.slice t a.length u] 193)=o:=⟨_,rfl⟩;have I:Below w.heap.size w o:=by rw [←z];exact (Below.refl _ _).alloc (Nat.le_refl _) _
 have S:o.heap[w.heap.size]? =some (.cells #[.int .i64 d,.slice t a.length u] 193 (0,0)):=by rw [←z];exact heap_alloc_new w _
 have S1:Kb s w.heap.size #[.int .i64 d,.slice t a.length u] o v c:=⟨⟨r.row.below I,r.own,r.below.trans (I.mono Z)⟩,fun e=>by have:=r.row.lt e;omega,S⟩
 obtain ⟨a1,c1,rfl⟩:=r.row.len;have i0:o.cell? ⟨w.heap.size,0,none⟩=some (.int .i64 d):=by rw [Lib.cell_of_heap S];rfl
 have m:=Lib.hid S1;clear hp f D S I S1 r;go_enter Tryz.func175,Tryz.ntmps175;go_wp2_with fail
 refine (dF _ c d 4 o m.out.wr.row (by omega) W (by omega)).mono ?_;rintro e w2 ⟨v2,rfl,F,K2,O2⟩;have B:(c++az 4 d).length≤1004:=by rw [List.length_append,bf];omega
 obtain ⟨H,p⟩:∃A,c++az 4 d=A:=⟨_,rfl⟩;rw [p] at F B;have Q:=m.out.step F K2 O2;obtain ⟨a2,c2,rfl⟩:=F.len;have n:=Lib.hid Q;have K:=Lib.hid p;have i2:w2.cell? ⟨w.heap.size,1,none⟩=some (.slice t a.length u):=by rw [Lib.cell_of_heap Q.blk];rfl
 clear F K2 O2 Q p m i0;go_wp2_with fail
 refine (dF _ H a.length 1 w2 n.out.wr.row (by omega) (by omega) (by omega)).mono ?_;rintro e w3 ⟨v3,rfl,G,K3,O3⟩;have C:(H++az 1 a.length).length≤1005:=by rw [List.length_append,bf];omega
 obtain ⟨E,q⟩:∃A,H++az 1 a.length=A:=⟨_,rfl⟩;rw [q] at G C;have R:=n.out.step G K3 O3;obtain ⟨a3,c3,rfl⟩:=G.len;have N:=Lib.hid R;have L:=Lib.hid q;have i3:w3.cell? ⟨w.heap.size,1,none⟩=some (.slice t a.length u):=by rw [Lib.cell_of_heap R.blk];rfl
 clear G K3 O3 R q n i2;go_wp2_with fail
 go_loopw [0,19] (fun b i w'=>∃k:Nat,k≤a.length∧i= .int .i64 k∧Hid (Kb s w.heap.size #[.int .i64 d,.slice t a.length u] w' b (E++fB (a.take k)))) (fun _ i _=>a.length - (intOf i).toNat)
 case atStart=>
  refine ⟨0,Nat.zero_le _,rfl,Lib.hid ?_⟩;rw [List.take_zero,show fB []=[] from rfl,List.append_nil];exact N.out
 case round=>
  obtain ⟨k,hk,rfl,l⟩:=hrel;have a7:(fB (a.take k)).length≤k:=by rw [jd,List.length_take];omega
  by_cases j:k < a.length
  ·have a4:(k:Int) < (a.length:Int):=by omega
   obtain ⟨g,a0,rfl,V,T⟩:=HV.out k j;rw [lY a k j] at T;have d0:wr.cell? ⟨g,a0+k,none⟩=some (.int .i64 (a[k]:Nat)):=(l.out.wr.below.cell (by exact V)).trans T;have P:Hid (fB (a.take (k+1))=fB (a.take k)++az 1 a[k]):=Lib.hid (zr a k j);have Y:=M.out a[k] (List.getElem_mem j);obtain ⟨x,ex⟩:∃x,a[k]=x:=⟨_,rfl⟩;rw [ex] at d0 P Y;obtain ⟨y,h⟩:∃y,E++fB (a.take k)=y:=⟨_,rfl⟩;have a5:y.length≤1005+k:=by rw [←h,List.length_append];omega
   have HN:Hid (E++fB (a.take (k+1))=y++az 1 x):=Lib.hid (by rw [P.out,←List.append_assoc,h]);rw [h] at l;obtain ⟨a6,c6,U⟩:=l.out.wr.row.len;subst U;have J:=Lib.hid (dF _ y x 1 wr l.out.wr.row (by omega) (by omega) (by omega));clear T ex h P;go_wp2_with fail
   refine J.out.mono ?_;rintro e w7 ⟨v7,rfl,R7,K7,O7⟩;have O:=Lib.hid (l.out.step R7 K7 O7);clear R7 K7 O7;go_wp2_with fail
   exact ⟨⟨k+1,by omega,by go_num,by rw [HN.out];exact O⟩,by simp [intOf];omega⟩
  ·have X:k=a.length:=by omega
   subst X;rw [List.take_length] at l;have HE:Hid (c++aM d a=E++fB a):=Lib.hid (by rw [←L.out,←K.out];simp [aM]);go_wp2_with fail
   go_ret;exact ⟨_,rfl,by rw [HE.out];exact l.out.wr⟩
theorem xr (E:Value) (c:Nat) (b:List Nat) (w:World) (u:bg w E b.length 1 (aZ b)) (t:c≤4294967295) (I:b.length≤100) (l:∀x∈b,x≤255):
  Calls Tryz.prog 171 #[.agg #[.int .i64 c,E]] w fun e J=>e= .returned (.string (bs (71::aM c b)))∧Below w.heap.size w J:=by
 obtain ⟨n,o,rfl,_⟩:=u.one;obtain ⟨a,d⟩:∃a:World,w.alloc (.cells #[.int .i64 c,.slice n b.length o] 193)=a:=⟨_,rfl⟩;have p:Below w.heap.size w a:=by rw [←d];exact (Below.refl _ _).alloc (Nat.le_refl _) _
 have C:a.heap[w.heap.size]? =some (.cells #[.int .i64 c,.slice n b.length o] 193 (0,0)):=by rw [←d];exact heap_alloc_new w _
 have v:a.heap.size=w.heap.size+1:=by rw [←d];simp
 have j:=Lib.run_convert_bytes_const (P:=Tryz.prog) a 114 5 #[.int .u8 71] 1 1 Tryz.underlying114 Tryz.underlying5;have m:Below a.heap.size a (a.alloc (.cells #[.int .u8 71] 5 (1,2))):=(Below.refl _ _).alloc (Nat.le_refl _) _;have s:dT (a.alloc (.cells #[.int .u8 71] 5 (1,2))) (.slice (some ⟨a.heap.size,0,none⟩) 1 1) [71]:= .inr ⟨a.heap.size,1,#[.int .u8 71],(1,2),rfl,heap_alloc_new a _,.inr (Nat.le_refl _),Nat.le_refl _,by unfold maxLen;decide,rfl,rfl⟩
 obtain ⟨f,h⟩:∃f:World,a.alloc (.cells #[.int .u8 71] 5 (1,2))=f:=⟨_,rfl⟩;rw [show (#[Value.int .u8 71]:Array Value).size=1 from rfl,h] at j;rw [h] at s m;have B:WR a.heap.size a f (.slice (some ⟨a.heap.size,0,none⟩) 1 1) [71]:=⟨s,fun k e=>by injection e with e;have e:a.heap.size=k:=e;omega,m⟩
 have y:f.heap[w.heap.size]? =some (.cells #[.int .i64 c,.slice n b.length o] 193 (0,0)):=(m.block _ (by omega)).trans C;have M:f.cell? ⟨w.heap.size,0,none⟩=some (.int .i64 c):=by rw [Lib.cell_of_heap y];rfl
 have N:f.cell? ⟨w.heap.size,1,none⟩=some (.slice n b.length o):=by rw [Lib.cell_of_heap y];rfl
 have z:=Lib.hid (kM a f _ _ [71] c b B (u.below p) (by simp) t I l);have q:=Lib.hid p;rw [v] at j z;have H:=Lib.hid d;clear u l C p s m B h y;go_enter Tryz.func171,Tryz.ntmps171;go_wp2_with fail
 refine z.out.mono ?_;rintro e Q ⟨O,rfl,i⟩;have r:=Lib.hid (q.out.trans (i.below.mono (by omega)));obtain ⟨F,g⟩:∃A,[71]++aM c b=A:=⟨_,rfl⟩;have G:Hid (71::aM c b=F):=Lib.hid g;rw [g] at i;have D:=i.row.string;obtain ⟨K,L,rfl⟩:=i.row.len;clear i g;go_wp2_with fail
 go_ret;exact ⟨by rw [G.out];rfl,r.out⟩
theorem sL (R:Value) (a d:Nat) (c:List Nat) (w:World) (I:bg w R c.length 1 (aZ c)) (Y:a≤4294967295) (H:d≤4294967295) (X:c.length≤100) (o:∀x∈c,x≤255):
  Calls Tryz.prog 124 #[.int .i64 a,.agg #[.int .i64 d,R]] w fun e w'=>e= .returned (.string (bs (70::(az 4 a++aM d c))))∧Below w.heap.size w w':=by
 obtain ⟨r,s,rfl,_⟩:=I.one;obtain ⟨b,g⟩:∃b:World,w.alloc (.cells #[.int .i64 d,.slice r c.length s] 193)=b:=⟨_,rfl⟩;have v:Below w.heap.size w b:=by rw [←g];exact (Below.refl _ _).alloc (Nat.le_refl _) _
 have O:b.heap[w.heap.size]? =some (.cells #[.int .i64 d,.slice r c.length s] 193 (0,0)):=by rw [←g];exact heap_alloc_new w _
 have j:b.heap.size=w.heap.size+1:=by rw [←g];simp
 have n:=Lib.run_convert_bytes_const (P:=Tryz.prog) b 114 5 #[.int .u8 70] 1 1 Tryz.underlying114 Tryz.underlying5;have y:Below b.heap.size b (b.alloc (.cells #[.int .u8 70] 5 (1,2))):=(Below.refl _ _).alloc (Nat.le_refl _) _;have p:dT (b.alloc (.cells #[.int .u8 70] 5 (1,2))) (.slice (some ⟨b.heap.size,0,none⟩) 1 1) [70]:= .inr ⟨b.heap.size,1,#[.int .u8 70],(1,2),rfl,heap_alloc_new b _,.inr (Nat.le_refl _),Nat.le_refl _,by unfold maxLen;decide,rfl,rfl⟩
 obtain ⟨q,i⟩:∃q:World,b.alloc (.cells #[.int .u8 70] 5 (1,2))=q:=⟨_,rfl⟩;rw [show (#[Value.int .u8 70]:Array Value).size=1 from rfl,i] at n;rw [i] at p y;have N:WR b.heap.size b q (.slice (some ⟨b.heap.size,0,none⟩) 1 1) [70]:=⟨p,fun k e=>by injection e with e;have e:b.heap.size=k:=e;omega,y⟩
 have F:=Lib.hid N;have G:=Lib.hid O;have C:=Lib.hid (I.below v);have D:=Lib.hid o;have E:=Lib.hid (dF _ [70] a 4 q p (by simp) Y (by omega));have z:=Lib.hid v;rw [j] at n E;have V:=Lib.hid g;clear I o O v p y N i;go_enter Tryz.func124,Tryz.ntmps124;go_wp2_with fail
 refine E.out.mono ?_;rintro e t ⟨Z,rfl,M,K,L⟩;have l:=F.out.step (Nat.le_refl _) M (by rw [j];exact K) (by rw [j];exact L);obtain ⟨u,f⟩:∃A,[70]++az 4 a=A:=⟨_,rfl⟩;have W:u.length≤5:=by rw [←f,List.length_append,bf];simp
 rw [f] at l;have U:=Lib.hid (kM b t Z _ u d c l C.out (by omega) H X D.out);have J:t.heap[w.heap.size]? =some (.cells #[.int .i64 d,.slice r c.length s] 193 (0,0)):=(l.below.block _ (by omega)).trans G.out;have i0:t.cell? ⟨w.heap.size,0,none⟩=some (.int .i64 d):=by rw [Lib.cell_of_heap J];rfl
 have i1:t.cell? ⟨w.heap.size,1,none⟩=some (.slice r c.length s):=by rw [Lib.cell_of_heap J];rfl
 obtain ⟨a2,c2,rfl⟩:=l.row.len;clear M K L l J E;go_wp2_with fail
 refine U.out.mono ?_;rintro e w3 ⟨v3,rfl,m⟩;have B:=Lib.hid (z.out.trans (m.below.mono (by omega)));obtain ⟨S,h⟩:∃A,u++aM d c=A:=⟨_,rfl⟩;have T:Hid (70::(az 4 a++aM d c)=S):=Lib.hid (by rw [←h,←f];simp);rw [h] at m;have Q:=m.row.string;obtain ⟨a3,c3,rfl⟩:=m.row.len;clear m h f;go_wp2_with fail
 go_ret;exact ⟨by rw [T.out];rfl,B.out⟩
end Go.Proofs.YtofpegbpgkkgkaaGreatDoor
