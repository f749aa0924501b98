import Derived.Test.YtofpegbpgkkgkaaGreatDoorS10
import Derived.Lib.DecodeN
import Derived.Test.YtofpegbpgkkgkaaGreatDoorS09
namespace Go.Proofs.YtofpegbpgkkgkaaGreatDoor
set_option maxHeartbeats 8000000
set_option maxRecDepth 1000000
open Go.RowKit
def JE (b:Bool) (w:World) (e:Ending) (w':World):Prop:=e= .returned (.bool b)∧∃n,w'=w.drewN n
theorem JE.mk {b:Bool} {w:World} {e:Ending} {a:World} (c:Bool) (f:e= .returned (.bool c)) (d:b=c) (n:Nat) (g:a=w.drewN n):JE b w e a:=⟨by rw [f,d],n,g⟩
def jo (k:og):Value:= .agg #[.int .i64 (k.verb:Int),.string (bs k.name),.int .i64 (k.size:Int),.string (bs k.shown)]
def iI:og:=⟨1,[],0,[]⟩
def rJ (v:Nat):og:=⟨v,[],0,[]⟩
def la (v:Nat) (has:Bool):og:=if has then iI else rJ v
def mW (v:Nat) (arg:List UInt8):og:=if jj arg then rJ v else iI
theorem ia {f:World} {k:Nat} {a b c d x y z u:Value} {t:TypeId} (h:f.heap[k]? =some (.cells #[a,b,c,d] t (0,0))):
  let W:=(((f.setCell ⟨k,0,none⟩ x).setCell ⟨k,1,none⟩ y).setCell ⟨k,2,none⟩ z).setCell ⟨k,3,none⟩ u
  W.cell? ⟨k,0,none⟩=some x∧W.cell? ⟨k,1,none⟩=some y∧W.cell? ⟨k,2,none⟩=some z∧W.cell? ⟨k,3,none⟩=some u∧aL k f W:=by
 intro W;have g:=heap_setCell_same f k 0 _ _ x h;have i:=heap_setCell_same _ k 1 _ _ y g;have j:=heap_setCell_same _ k 2 _ _ z i;have e:=heap_setCell_same _ k 3 _ _ u j;exact ⟨by rw [Lib.cell_of_heap e];rfl,by rw [Lib.cell_of_heap e];rfl,by rw [Lib.cell_of_heap e];rfl,by rw [Lib.cell_of_heap e];rfl,((((aL.refl _ _).setCell _).setCell _).setCell _).setCell _⟩
theorem j9 (v:Nat) (a:Bool) (w:World):Calls Tryz.prog 152 #[.int .i64 (v:Int),.bool a] w fun e g=>e= .returned (jo (la v a))∧Below w.heap.size w g:=by
 cases a with
 | true=>
  go_enter Tryz.func152,Tryz.ntmps152;go_wp2_with fail
  have X:=heap_alloc_new w (.cells #[.int .i64 1,.string ⟨#[]⟩,.int .i64 0,.string ⟨#[]⟩] 179);have b:(w.alloc (.cells #[.int .i64 1,.string ⟨#[]⟩,.int .i64 0,.string ⟨#[]⟩] 179)).cell? ⟨w.heap.size,0,none⟩=some (.int .i64 1):=by rw [Lib.cell_of_heap X];rfl
  have c:(w.alloc (.cells #[.int .i64 1,.string ⟨#[]⟩,.int .i64 0,.string ⟨#[]⟩] 179)).cell? ⟨w.heap.size,1,none⟩=some (.string ⟨#[]⟩):=by rw [Lib.cell_of_heap X];rfl
  have d:(w.alloc (.cells #[.int .i64 1,.string ⟨#[]⟩,.int .i64 0,.string ⟨#[]⟩] 179)).cell? ⟨w.heap.size,2,none⟩=some (.int .i64 0):=by rw [Lib.cell_of_heap X];rfl
  have f:(w.alloc (.cells #[.int .i64 1,.string ⟨#[]⟩,.int .i64 0,.string ⟨#[]⟩] 179)).cell? ⟨w.heap.size,3,none⟩=some (.string ⟨#[]⟩):=by rw [Lib.cell_of_heap X];rfl
  refine bodyPost_ret (v:= .agg #[.int .i64 1,.string ⟨#[]⟩,.int .i64 0,.string ⟨#[]⟩]) (by simp [results,Tryz.results152,go_sem,b,c,d,f]) rfl ?_;exact ⟨rfl,(Below.refl _ _).alloc (Nat.le_refl _) _⟩
 | false=>
  go_enter Tryz.func152,Tryz.ntmps152;go_wp2_with fail
  have X:=heap_alloc_new w (.cells #[.int .i64 (v:Int),.string ⟨#[]⟩,.int .i64 0,.string ⟨#[]⟩] 179);have b:(w.alloc (.cells #[.int .i64 (v:Int),.string ⟨#[]⟩,.int .i64 0,.string ⟨#[]⟩] 179)).cell? ⟨w.heap.size,0,none⟩=some (.int .i64 (v:Int)):=by rw [Lib.cell_of_heap X];rfl
  have c:(w.alloc (.cells #[.int .i64 (v:Int),.string ⟨#[]⟩,.int .i64 0,.string ⟨#[]⟩] 179)).cell? ⟨w.heap.size,1,none⟩=some (.string ⟨#[]⟩):=by rw [Lib.cell_of_heap X];rfl
  have d:(w.alloc (.cells #[.int .i64 (v:Int),.string ⟨#[]⟩,.int .i64 0,.string ⟨#[]⟩] 179)).cell? ⟨w.heap.size,2,none⟩=some (.int .i64 0):=by rw [Lib.cell_of_heap X];rfl
  have f:(w.alloc (.cells #[.int .i64 (v:Int),.string ⟨#[]⟩,.int .i64 0,.string ⟨#[]⟩] 179)).cell? ⟨w.heap.size,3,none⟩=some (.string ⟨#[]⟩):=by rw [Lib.cell_of_heap X];rfl
  refine bodyPost_ret (v:= .agg #[.int .i64 (v:Int),.string ⟨#[]⟩,.int .i64 0,.string ⟨#[]⟩]) (by simp [results,Tryz.results152,go_sem,b,c,d,f]) rfl ?_;exact ⟨rfl,(Below.refl _ _).alloc (Nat.le_refl _) _⟩
theorem oC (v:Nat) (arg:List UInt8) (m:Int) (w:World) (F:arg.length≤1048576) (o:w.cell? ⟨0,0,none⟩=some (.int .i64 m)):Calls Tryz.prog 153 #[.int .i64 (v:Int),.string (bs arg)] w fun e E=>e= .returned (jo (mW v arg))∧Below w.heap.size w E:=by
 obtain ⟨h,b⟩:∃h:World,w.alloc (.cells #[.int .i64 0,.string ⟨#[]⟩,.int .i64 0,.string ⟨#[]⟩] 179)=h:=⟨_,rfl⟩;have j:Below w.heap.size w h:=by rw [←b];exact (Below.refl _ _).alloc (Nat.le_refl _) _
 have D:h.heap[w.heap.size]? =some (.cells #[.int .i64 0,.string ⟨#[]⟩,.int .i64 0,.string ⟨#[]⟩] 179 (0,0)):=by rw [←b];exact heap_alloc_new w _
 have G:=aG arg;have B:=Lib.hid (iy (bs arg) m h (by unfold maxLen;omega) ((j.cell (aC o)).trans o));have d:=Lib.hid j;have l:=Lib.hid D;have k:=Lib.hid b;clear j D b o;go_enter Tryz.func153,Tryz.ntmps153;go_wp2_with fail
 rw [k.out];refine B.out.mono ?_;rintro e i ⟨rfl,c⟩;rw [aI];have a:=ae c l.out;have H:i.cell? ⟨w.heap.size,0,none⟩=some (.int .i64 0):=by rw [Lib.cell_of_heap a];rfl
 have I:i.cell? ⟨w.heap.size,1,none⟩=some (.string ⟨#[]⟩):=by rw [Lib.cell_of_heap a];rfl
 have J:i.cell? ⟨w.heap.size,2,none⟩=some (.int .i64 0):=by rw [Lib.cell_of_heap a];rfl
 have K:i.cell? ⟨w.heap.size,3,none⟩=some (.string ⟨#[]⟩):=by rw [Lib.cell_of_heap a];rfl
 have L:=Lib.frozen_of_heap a 0;have M:=Lib.frozen_of_heap a 1;have N:=Lib.frozen_of_heap a 2;have O:=Lib.frozen_of_heap a 3;have g:=Lib.hid a;have f:=Lib.hid (d.out.trans (c.mono d.out.size));obtain ⟨t,n⟩:∃t,jj arg=t:=⟨_,rfl⟩;rw [n];have C:Hid (mW v arg=if t then rJ v else iI):=Lib.hid (by unfold mW;rw [n]);clear a c n B
 cases t with
 | true=>
  go_wp2_with fail
  obtain ⟨p,q,r,s,A⟩:=ia (x:= .int .i64 (v:Int)) (y:= .string ⟨#[]⟩) (z:= .int .i64 0) (u:= .string ⟨#[]⟩) g.out;refine bodyPost_ret (v:= .agg #[.int .i64 (v:Int),.string ⟨#[]⟩,.int .i64 0,.string ⟨#[]⟩]) (by simp [results,Tryz.results153,go_sem,p,q,r,s]) rfl ?_;exact ⟨by rw [C.out];rfl,f.out.trans (A.below (Nat.le_refl _))⟩
 | false=>
  go_wp2_with fail
  obtain ⟨p,q,r,s,A⟩:=ia (x:= .int .i64 1) (y:= .string ⟨#[]⟩) (z:= .int .i64 0) (u:= .string ⟨#[]⟩) g.out;refine bodyPost_ret (v:= .agg #[.int .i64 1,.string ⟨#[]⟩,.int .i64 0,.string ⟨#[]⟩]) (by simp [results,Tryz.results153,go_sem,p,q,r,s]) rfl ?_;exact ⟨by rw [C.out];rfl,f.out.trans (A.below (Nat.le_refl _))⟩
def fp (l:List UInt8):Prop:=∀x∈l,x.toNat < 128
def fu (s p:List UInt8):Option (List UInt8):=if s.length < p.length then none else if Lib.equalFold (s.take p.length) p then some (s.drop p.length) else none
def xz (o:Option (List UInt8)):Value:=
 match o with
 | some r=> .tuple #[.string (bs r),.bool true]
 | none=> .tuple #[.string ⟨#[]⟩,.bool false]
theorem jK (s p:List UInt8) (w:World) (_:s.length≤1048576) (r:p.length≤100) (i:fp s) (k:fp p):Calls Tryz.prog 208 #[.string (bs s),.string (bs p)] w fun e f=>e= .returned (xz (fu s p))∧w=f:=by
 have o:=aG s;have q:=aG p
 by_cases c:s.length < p.length
 ·have a:Hid (fu s p=none):=Lib.hid (by unfold fu;rw [if_pos c]);have m:(s.length:Int) < (p.length:Int):=by omega
  go_enter Tryz.func208,Tryz.ntmps208;go_wp2_with fail
  go_ret2
  exact ⟨by rw [a.out];rfl,rfl⟩
 ·have m:¬(s.length:Int) < (p.length:Int):=by omega
  have n:(bs s).extract 0 p.length=bs (s.take p.length):=by rw [fW,List.drop_zero]
  have l:(bs s).extract p.length s.length=bs (s.drop p.length):=by rw [fW,List.take_length]
  have g:Hid (∀W:World,Calls Tryz.prog 246 #[.string (bs (s.take p.length)),.string (bs p)] W fun e f=>e= .returned (.bool (Lib.equalFold (s.take p.length) p))∧f=W):=Lib.hid (fun W=>Tryz.strings_EqualFold (bs (s.take p.length)) (bs p) W (by rw [aG,List.length_take];omega) (fun j b d=>i b (List.mem_of_mem_take (List.mem_of_getElem? d))) (fun j b d=>k b (List.mem_of_getElem? d)));have a:Hid (fu s p=if Lib.equalFold (s.take p.length) p then some (s.drop p.length) else none):=Lib.hid (by unfold fu;rw [if_neg c]);obtain ⟨t,h⟩:∃t,Lib.equalFold (s.take p.length) p=t:=⟨_,rfl⟩;rw [h] at g a;clear i k h;go_enter Tryz.func208,Tryz.ntmps208;go_wp2_with fail
  refine (g.out w).mono ?_;rintro e u ⟨rfl,rfl⟩
  cases t with
  | true=>
   go_wp2_with fail
   go_ret2
   exact ⟨by rw [a.out];rfl,rfl⟩
  | false=>
   go_wp2_with fail
   go_ret2
   exact ⟨by rw [a.out];rfl,rfl⟩
def oZ (l:List UInt8):Bool:=decide (1≤l.length) && decide (l.length≤9) && !(decide (1 < l.length) && (l.getD 0 0 == 48)) && l.all fun c=>ix c.toNat
theorem Dm {l:List UInt8} (h:l.length < 1):oZ l=false:=by unfold oZ;rw [decide_eq_false (by omega)];rfl
theorem Fu {l:List UInt8} (h:9 < l.length):oZ l=false:=by unfold oZ;rw [decide_eq_false (p:=l.length≤9) (by omega),Bool.and_false];rfl
theorem Fv {l:List UInt8} (h:1 < l.length) (a:l.getD 0 0=48):oZ l=false:=by unfold oZ;rw [decide_eq_true (p:=1 < l.length) h,a];simp
theorem Bo {l:List UInt8} (b:1≤l.length) (d:l.length≤9) (a:l.length=1∨l.getD 0 0≠48):oZ l=l.all fun c=>ix c.toNat:=by
 unfold oZ;rw [decide_eq_true b,decide_eq_true d]
 have:(decide (1 < l.length) && (l.getD 0 0 == 48))=false:=by
  rcases a with a | a
  ·rw [decide_eq_false (by omega)];rfl
  ·rw [beq_eq_false_iff_ne.2 a,Bool.and_false]
 rw [this];simp
theorem zg (s:ByteArray) (w:World) (y:s.size≤maxLen):
  Calls Tryz.prog 248 #[.string s] w fun e A=>e= .returned (.bool (oZ s.data.toList))∧A=w:=by
 unfold maxLen at y;have z:=aJ s
 by_cases B:s.size < 1
 ·have b:=Lib.hid (Dm (l:=s.data.toList) (by omega));have x:(s.size:Int) < 1:=by omega
  go_enter Tryz.func248,Tryz.ntmps248;go_wp2_with fail
  go_ret;exact ⟨by rw [b.out];rfl,rfl⟩
 ·have x:¬(s.size:Int) < 1:=by omega
  by_cases C:9 < s.size
  ·have b:=Lib.hid (Fu (l:=s.data.toList) (by omega));have h:(9:Int) < (s.size:Int):=by omega
   go_enter Tryz.func248,Tryz.ntmps248;go_wp2_with fail
   go_ret;exact ⟨by rw [b.out];rfl,rfl⟩
  ·have h:¬(9:Int) < (s.size:Int):=by omega
   by_cases D:s.size=1
   ·have b:=Lib.hid (Bo (l:=s.data.toList) (by omega) (by omega) (.inl (by omega)));have t:¬(1:Int) < (s.size:Int):=by omega
    go_enter Tryz.func248,Tryz.ntmps248;go_wp2_with fail
    go_loop [24] (fun i=>∃k:Nat,k≤s.size∧i= .int .i64 k∧Hid (∀j:Nat,j < k→(fun c:UInt8=>ix c.toNat) (s.data.toList.getD j 0)=true)) (fun i=>s.size - (intOf i).toNat)
    case atStart=>exact ⟨0,Nat.zero_le _,rfl,fun j h=>by omega⟩
    case round=>
     obtain ⟨k,t,rfl,n⟩:=hrel
     by_cases a:k < s.size
     ·have o:(k:Int) < (s.size:Int):=by omega
      have g:Hid (s.data.toList.getD k 0=s[k]):=pN s k a
      by_cases u:(s[k].toNat:Int) < 48
      ·have d:Hid ((fun c:UInt8=>ix c.toNat) s[k]=false):=Lib.hid (by simp only [ix];rw [decide_eq_false (by omega)];rfl);go_wp2_with fail
       go_ret;exact ⟨cG (by rw [b.out];exact (qH (p:=fun c:UInt8=>ix c.toNat) (by rw [aJ];exact a) (by rw [g.out];exact d.out)).symm),rfl⟩
      ·by_cases r:(57:Int) < (s[k].toNat:Int)
       ·have d:Hid ((fun c:UInt8=>ix c.toNat) s[k]=false):=Lib.hid (by simp only [ix];rw [decide_eq_false (p:=(s[k].toNat:Int)≤57) (by omega),Bool.and_false]);go_wp2_with fail
        go_ret;exact ⟨cG (by rw [b.out];exact (qH (p:=fun c:UInt8=>ix c.toNat) (by rw [aJ];exact a) (by rw [g.out];exact d.out)).symm),rfl⟩
       ·have d:Hid ((fun c:UInt8=>ix c.toNat) s[k]=true):=Lib.hid (by simp only [ix];rw [decide_eq_true (by omega),decide_eq_true (by omega)];rfl);go_wp2_with fail
        exact ⟨⟨k+1,by omega,by go_num,Lib.hid (qj (p:=fun c:UInt8=>ix c.toNat) n.out g.out d.out)⟩,by simp [intOf];omega⟩
     ·go_wp2_with fail
      go_ret;exact ⟨cG (by rw [b.out];exact (yx (p:=fun c:UInt8=>ix c.toNat) (fun j h=>n.out j (by rw [aJ] at h;omega))).symm),rfl⟩
   ·have t:(1:Int) < (s.size:Int):=by omega
    have v:0 < s.size:=by omega
    have f:=pN s 0 v
    by_cases m:s[0]=48
    ·have b:=Lib.hid (Fv (l:=s.data.toList) (by omega) (by rw [f,m]));have q:((s[0].toNat:Int) == 48)=true:=by rw [m];rfl
     clear m f;go_enter Tryz.func248,Tryz.ntmps248;go_wp2_with fail
     go_ret;exact ⟨by rw [b.out];rfl,rfl⟩
    ·have b:=Lib.hid (Bo (l:=s.data.toList) (by omega) (by omega) (.inr (by rw [f];exact m)))
     have q:((s[0].toNat:Int) == 48)=false:=by
      rw [beq_eq_false_iff_ne];intro e;exact m (UInt8.toNat_inj.1 (by show s[0].toNat=48;omega))
     clear m f;go_enter Tryz.func248,Tryz.ntmps248;go_wp2_with fail
     go_loop [24] (fun i=>∃k:Nat,k≤s.size∧i= .int .i64 k∧Hid (∀j:Nat,j < k→(fun c:UInt8=>ix c.toNat) (s.data.toList.getD j 0)=true)) (fun i=>s.size - (intOf i).toNat)
     case atStart=>exact ⟨0,Nat.zero_le _,rfl,fun j h=>by omega⟩
     case round=>
      obtain ⟨k,t,rfl,n⟩:=hrel
      by_cases a:k < s.size
      ·have o:(k:Int) < (s.size:Int):=by omega
       have g:Hid (s.data.toList.getD k 0=s[k]):=pN s k a
       by_cases u:(s[k].toNat:Int) < 48
       ·have d:Hid ((fun c:UInt8=>ix c.toNat) s[k]=false):=Lib.hid (by simp only [ix];rw [decide_eq_false (by omega)];rfl);go_wp2_with fail
        go_ret;exact ⟨cG (by rw [b.out];exact (qH (p:=fun c:UInt8=>ix c.toNat) (by rw [aJ];exact a) (by rw [g.out];exact d.out)).symm),rfl⟩
       ·by_cases r:(57:Int) < (s[k].toNat:Int)
        ·have d:Hid ((fun c:UInt8=>ix c.toNat) s[k]=false):=Lib.hid (by simp only [ix];rw [decide_eq_false (p:=(s[k].toNat:Int)≤57) (by omega),Bool.and_false]);go_wp2_with fail
         go_ret;exact ⟨cG (by rw [b.out];exact (qH (p:=fun c:UInt8=>ix c.toNat) (by rw [aJ];exact a) (by rw [g.out];exact d.out)).symm),rfl⟩
        ·have d:Hid ((fun c:UInt8=>ix c.toNat) s[k]=true):=Lib.hid (by simp only [ix];rw [decide_eq_true (by omega),decide_eq_true (by omega)];rfl);go_wp2_with fail
         exact ⟨⟨k+1,by omega,by go_num,Lib.hid (qj (p:=fun c:UInt8=>ix c.toNat) n.out g.out d.out)⟩,by simp [intOf];omega⟩
      ·go_wp2_with fail
       go_ret;exact ⟨cG (by rw [b.out];exact (yx (p:=fun c:UInt8=>ix c.toNat) (fun j h=>n.out j (by rw [aJ] at h;omega))).symm),rfl⟩
def EP (l:List UInt8):Nat:=l.foldl (fun n c=>10 * n+(c.toNat - 48)) 0
theorem mR:∀(l:List UInt8) (a:Nat),(∀c∈l,ix c.toNat=true)→Lib.decFrom a l=some (l.foldl (fun n c=>10 * n+(c.toNat - 48)) a)
 | [],a,_=>by simp [Lib.decFrom]
 | c::l,a,h=>by
  have b:=h c (List.mem_cons_self ..);unfold ix at b;simp only [Bool.and_eq_true,decide_eq_true_eq] at b;have d:Lib.digitVal c=some (c.toNat - 48):=by unfold Lib.digitVal;rw [if_pos (by omega)]
  rw [Lib.decFrom,d,List.foldl_cons];show Lib.decFrom (a * 10+(c.toNat - 48)) l=_;rw [mR l _ (fun x e=>h x (List.mem_cons_of_mem _ e)),Nat.mul_comm]
theorem rO {l:List UInt8} (h:oZ l=true):(1≤l.length∧l.length≤9)∧∀c∈l,ix c.toNat=true:=by
 unfold oZ at h;simp only [Bool.and_eq_true,decide_eq_true_eq,List.all_eq_true] at h;exact ⟨⟨h.1.1.1,h.1.1.2⟩,h.2⟩
theorem zZ {l:List UInt8} (h:oZ l=true):Lib.atoi l=some ((EP l:Nat):Int):=by
 obtain ⟨⟨d,_⟩,b⟩:=rO h
 cases l with
 | nil=>simp at d
 | cons c l=>
  have a:=b c (List.mem_cons_self ..);unfold ix at a;simp only [Bool.and_eq_true,decide_eq_true_eq] at a;have e:(c == 45)=false:=by rw [beq_eq_false_iff_ne];rintro rfl;simp at a
  have f:(c == 43)=false:=by rw [beq_eq_false_iff_ne];rintro rfl;simp at a
  unfold Lib.atoi;simp only [e,f,Bool.false_eq_true,if_false];unfold Lib.decNat;rw [show (c::l).isEmpty=false from rfl];simp only [Bool.false_eq_true,if_false];rw [mR _ _ b];rfl
def kT (l:List UInt8):Option Nat:=
 if l=[] then some 0 else match fu l [32,83,73,90,69,61] with | some d=>if oZ d then some (EP d) else none | none=>none
def Iw (o:Option Nat):Value:=
 match o with
 | some n=> .tuple #[.int .i64 (n:Int),.bool true]
 | none=> .tuple #[.int .i64 0,.bool false]
theorem wB {W:World} {e:TypeId} {x:ByteArray}:Below W.heap.size W (Lib.bytesWorld W e x):=
 ⟨by simp [Lib.bytesWorld,World.freeze,World.alloc,World.drew, -World.alloc_eq, -World.drew_eq],by simp [Lib.bytesWorld,World.freeze,World.alloc,World.drew, -World.alloc_eq, -World.drew_eq],by simp [Lib.bytesWorld,World.freeze,World.alloc,World.drew, -World.alloc_eq, -World.drew_eq],by rw [Lib.bytesWorld_size];omega,fun k a=>Lib.bytesWorld_at_old W e x k a⟩
theorem mQ {s p r:List UInt8} (h:fu s p=some r) (a:fp s):fp r∧r.length≤s.length:=by
 unfold fu at h
 split at h
 ·cases h
 ·split at h
  ·injection h with h;rw [←h];exact ⟨fun x b=>a x (List.mem_of_mem_drop b),by rw [List.length_drop];omega⟩
  ·cases h
theorem zu (l:List UInt8) (w:World) (s:l.length≤1048576) (k:fp l):
  Calls Tryz.prog 211 #[.string (bs l)] w fun e v=>e= .returned (Iw (kT l))∧Below w.heap.size w v:=by
 by_cases h:l=[]
 ·subst h;have q:Hid (kT []=some 0):=Lib.hid rfl;rw [show bs ([]:List UInt8)=⟨#[]⟩ from rfl];go_enter Tryz.func211,Tryz.ntmps211;go_wp2_with fail
  go_ret2
  exact ⟨by rw [q.out];rfl,Below.refl _ _⟩
 ·have u:((bs l).toList == [])=false:=by rw [beq_eq_false_iff_ne,ByteArray.toList_eq,aI];exact h
  have a:=Lib.hid (jK l [32,83,73,90,69,61] w s (by decide) k (by unfold fp;decide));have f:Hid (kT l=match fu l [32,83,73,90,69,61] with | some d=>if oZ d then some (EP d) else none | none=>none):=Lib.hid (by unfold kT;rw [if_neg h])
  cases c:fu l [32,83,73,90,69,61] with
  | none=>
   rw [c] at a f;have b:Hid (kT l=none):=Lib.hid f.out;clear c f h k;simp only [xz] at a;go_enter Tryz.func211,Tryz.ntmps211;go_wp2_with fail
   refine a.out.mono ?_;rintro e p ⟨rfl,rfl⟩;go_wp2_with fail
   go_ret2
   exact ⟨by rw [b.out];rfl,Below.refl _ _⟩
  | some d=>
   rw [c] at a f;have o:=mQ c k;simp only [xz] at a;have r:=aG d;have j:=Lib.hid (zg (bs d) w (by unfold maxLen;omega));rw [aI] at j
   cases g:oZ d with
   | false=>
    rw [g] at j;have b:Hid (kT l=none):=Lib.hid (by rw [f.out];simp only [];rw [g];rfl);clear c f h k o g;go_enter Tryz.func211,Tryz.ntmps211;go_wp2_with fail
    refine a.out.mono ?_;rintro e p ⟨rfl,rfl⟩;go_wp2_with (first | (go_at_call 248;refine j.out.mono ?_;rintro e x ⟨rfl,rfl⟩) | fail)
    go_ret2
    exact ⟨by rw [b.out];rfl,Below.refl _ _⟩
   | true=>
    rw [g] at j;have b:Hid (kT l=some (EP d)):=Lib.hid (by rw [f.out];simp only [];rw [g];rfl);have i:=Lib.hid (Tryz.strconv_Atoi (bs d) ((EP d:Nat):Int) (by have:=(rO g).1;omega) (by rw [aI];exact zZ g) w);obtain ⟨n,m⟩:∃n,EP d=n:=⟨_,rfl⟩;rw [m] at b i;clear c f h k o g m;go_enter Tryz.func211,Tryz.ntmps211;go_wp2_with fail
    refine a.out.mono ?_;rintro e p ⟨rfl,rfl⟩;go_wp2_with (first | (go_at_call 248;refine j.out.mono ?_;rintro e x ⟨rfl,rfl⟩) | fail)
    refine i.out.mono ?_;rintro e y ⟨rfl,t,rfl⟩;go_wp2_with fail
    go_quiet (fail)
    go_wp2_with fail
    go_ret2
    exact ⟨by rw [b.out];rfl,wB.trans (bA _ _ _)⟩
def sj (n:Nat):UInt8:=UInt8.ofNat n
def Fk (k:Nat):Nat:=if k < 26 then k+65 else if k < 52 then k+71 else if k < 62 then k - 4 else if k=62 then 43 else 47
def sE (k:Nat):UInt8:=sj (Fk k)
def iv (c:UInt8):Option Nat:=
 if 65≤c.toNat∧c.toNat≤90 then some (c.toNat - 65) else if 97≤c.toNat∧c.toNat≤122 then some (c.toNat - 97+26) else if 48≤c.toNat∧c.toNat≤57 then some (c.toNat - 48+52) else if c.toNat=43 then some 62 else if c.toNat=47 then some 63 else none
theorem fk (n:Nat):(sj n).toNat=n % 256:=by rw [sj,UInt8.toNat_ofNat']
theorem Ch (n:Nat) (c:UInt8) (h:n % 256=c.toNat):sj n=c:=UInt8.toNat_inj.1 (by rw [fk,h])
theorem Jk (k:Nat):Fk k < 256:=by
 unfold Fk
 by_cases a:k < 26
 ·rw [if_pos a];omega
 rw [if_neg a]
 by_cases b:k < 52
 ·rw [if_pos b];omega
 rw [if_neg b]
 by_cases c:k < 62
 ·rw [if_pos c];omega
 rw [if_neg c]
 by_cases d:k=62
 ·rw [if_pos d];omega
 ·rw [if_neg d];omega
theorem CZ (k:Nat) (_:k < 64):(sE k).toNat=Fk k:=by
 have:=Jk k;rw [sE,fk];omega
theorem dy {c:UInt8} {k:Nat} (h:iv c=some k):k < 64∧sE k=c:=by
 have a:k < 64∧Fk k=c.toNat:=by
  unfold iv at h;unfold Fk
  split at h
  ·have:k=c.toNat - 65:=(Option.some.inj h).symm;rw [if_pos (by omega)];omega
  split at h
  ·have:k=c.toNat - 97+26:=(Option.some.inj h).symm;rw [if_neg (by omega),if_pos (by omega)];omega
  split at h
  ·have:k=c.toNat - 48+52:=(Option.some.inj h).symm;rw [if_neg (by omega),if_neg (by omega),if_pos (by omega)];omega
  split at h
  ·have:k=62:=(Option.some.inj h).symm;rw [if_neg (by omega),if_neg (by omega),if_neg (by omega),if_pos (by omega)];omega
  split at h
  ·have:k=63:=(Option.some.inj h).symm;rw [if_neg (by omega),if_neg (by omega),if_neg (by omega),if_neg (by omega)];omega
  ·cases h
 refine ⟨a.1,UInt8.toNat_inj.1 ?_⟩;rw [CZ k a.1,a.2]
def g1 (a b:UInt8):Option (List UInt8):=match iv a,iv b with
 | some p,some q=>if q % 16=0 then some [sj (p * 4+q / 16)] else none
 | _,_=>none
def g2 (a b c:UInt8):Option (List UInt8):=match iv a,iv b,iv c with
 | some p,some q,some r=>if r % 4=0 then some [sj (p * 4+q / 16),sj (q % 16 * 16+r / 4)] else none
 | _,_,_=>none
def g3 (a b c d:UInt8):Option (List UInt8):=match iv a,iv b,iv c,iv d with
 | some p,some q,some r,some t=>some [sj (p * 4+q / 16),sj (q % 16 * 16+r / 4),sj (r % 4 * 64+t)]
 | _,_,_,_=>none
def Gc (a b c d:UInt8):Option (List UInt8):=if d=61 then (if c=61 then g1 a b else g2 a b c) else g3 a b c d
def kv:List UInt8→Option (List UInt8)
 | []=>some []
 | a::b::c::d::r=>match Gc a b c d with
  | none=>none
  | some g=>if g.length < 3∧r≠[] then none else match kv r with
   | none=>none
   | some y=>some (g++y)
 | _=>none
def B8:List UInt8→List UInt8
 | []=>[]
 | [x]=>[sE (x.toNat / 4),sE (x.toNat % 4 * 16),61,61]
 | [x,y]=>[sE (x.toNat / 4),sE (x.toNat % 4 * 16+y.toNat / 16),sE (y.toNat % 16 * 4),61]
 | x::y::z::r=>sE (x.toNat / 4)::sE (x.toNat % 4 * 16+y.toNat / 16)::sE (y.toNat % 16 * 4+z.toNat / 64)::sE (z.toNat % 64)::B8 r
theorem Kj {a b:UInt8} {g:List UInt8} (h:g1 a b=some g):B8 g=[a,b,61,61]∧g.length=1:=by
 unfold g1 at h
 split at h
 ·rename_i p q e i
  split at h
  ·obtain ⟨f,c⟩:=dy e;obtain ⟨j,d⟩:=dy i;have:=(Option.some.inj h).symm;subst this;refine ⟨?_,rfl⟩;simp only [B8];rw [fk,←c,←d];rw [show (p * 4+q / 16) % 256 / 4=p by omega,show (p * 4+q / 16) % 256 % 4 * 16=q by omega]
  ·cases h
 ·cases h
theorem Kk {a b c:UInt8} {g:List UInt8} (h:g2 a b c=some g):B8 g=[a,b,c,61]∧g.length=2:=by
 unfold g2 at h
 split at h
 ·rename_i p q r i k m
  split at h
  ·obtain ⟨j,d⟩:=dy i;obtain ⟨l,e⟩:=dy k;obtain ⟨n,f⟩:=dy m;have:=(Option.some.inj h).symm;subst this;refine ⟨?_,rfl⟩;simp only [B8];rw [fk,fk,←d,←e,←f];rw [show (p * 4+q / 16) % 256 / 4=p by omega,show (p * 4+q / 16) % 256 % 4 * 16+(q % 16 * 16+r / 4) % 256 / 16=q by omega,show (q % 16 * 16+r / 4) % 256 % 16 * 4=r by omega]
  ·cases h
 ·cases h
theorem Kl {a b c d:UInt8} {g:List UInt8} (h:g3 a b c d=some g):(∀y,B8 (g++y)=a::b::c::d::B8 y)∧g.length=3:=by
 unfold g3 at h
 split at h
 ·rename_i p q r t k m o u
  obtain ⟨l,e⟩:=dy k;obtain ⟨n,f⟩:=dy m;obtain ⟨s,i⟩:=dy o;obtain ⟨v,j⟩:=dy u;have:=(Option.some.inj h).symm;subst this;refine ⟨fun y=>?_,rfl⟩;simp only [List.cons_append,List.nil_append,B8];rw [fk,fk,fk,←e,←f,←i,←j];rw [show (p * 4+q / 16) % 256 / 4=p by omega,show (p * 4+q / 16) % 256 % 4 * 16+(q % 16 * 16+r / 4) % 256 / 16=q by omega,show (q % 16 * 16+r / 4) % 256 % 16 * 4+(r % 4 * 64+t) % 256 / 64=r by omega,show (r % 4 * 64+t) % 256 % 64=t by omega]
 ·cases h
def jn (b:UInt8) (w:World) (e:Ending) (w':World):Prop:=e= .returned (.tuple #[.int .u32 (((iv b).getD 0:Nat):Int),.bool (iv b).isSome])∧w'=w
theorem jn.some {b:UInt8} {w:World} {e:Ending} {w':World} (k:Nat) (n:Int) (c:(k:Int)=n) (h:iv b=Option.some k) (a:e= .returned (.tuple #[.int .u32 n,.bool true])) (d:w'=w):jn b w e w':=⟨by rw [a,h,←c];rfl,d⟩
theorem jn.none {b:UInt8} {w:World} {e:Ending} {w':World} (h:iv b=Option.none) (a:e= .returned (.tuple #[.int .u32 0,.bool false])) (c:w'=w):jn b w e w':=⟨by rw [a,h];rfl,c⟩
theorem sG (b:UInt8) (w:World):Calls Tryz.prog 294 #[.int .u8 (b.toNat:Int)] w (jn b w):=by
 have q:(b.toNat:Int) < 256:=by have:=b.toNat_lt;omega
 have t:0≤(b.toNat:Int):=by omega
 by_cases e:65≤(b.toNat:Int)∧(b.toNat:Int)≤90
 ·have a:Hid (iv b=some (b.toNat - 65)):=by
   show _=_;unfold iv;rw [if_pos (by omega)]
  obtain ⟨g,m⟩:=e;go_enter Tryz.func294,Tryz.ntmps294;go_wp2
  go_ret2
  exact jn.some _ _ (by omega) a.out rfl rfl
 by_cases f:97≤(b.toNat:Int)∧(b.toNat:Int)≤122
 ·have a:Hid (iv b=some (b.toNat - 97+26)):=by
   show _=_;unfold iv;rw [if_neg (by omega),if_pos (by omega)]
  obtain ⟨g,m⟩:=f;clear e;have p:90 < (b.toNat:Int):=by omega
  go_enter Tryz.func294,Tryz.ntmps294;go_wp2
  go_ret2
  exact jn.some _ _ (by omega) a.out rfl rfl
 by_cases h:48≤(b.toNat:Int)∧(b.toNat:Int)≤57
 ·have a:Hid (iv b=some (b.toNat - 48+52)):=by
   show _=_;unfold iv;rw [if_neg (by omega),if_neg (by omega),if_pos (by omega)]
  obtain ⟨g,m⟩:=h;clear e f;have p:(b.toNat:Int) < 65:=by omega
  go_enter Tryz.func294,Tryz.ntmps294;go_wp2
  go_ret2
  exact jn.some _ _ (by omega) a.out rfl rfl
 have i:(decide (65≤(b.toNat:Int)) && decide ((b.toNat:Int)≤90))=false:=by simp;omega
 have j:(decide (97≤(b.toNat:Int)) && decide ((b.toNat:Int)≤122))=false:=by simp;omega
 have k:(decide (48≤(b.toNat:Int)) && decide ((b.toNat:Int)≤57))=false:=by simp;omega
 cases n:((b.toNat:Int) == 43) with
 | true=>
  have c:(b.toNat:Int)=43:=by simpa using n
  have a:Hid (iv b=some 62):=by
   show _=_;unfold iv;rw [if_neg (by omega),if_neg (by omega),if_neg (by omega),if_pos (by omega)]
  clear e f h i j k;have g:(b.toNat:Int) < 48:=by omega
  clear c;go_enter Tryz.func294,Tryz.ntmps294;go_wp2
  all_goals (go_ret2;exact jn.some _ _ rfl a.out rfl rfl)
 | false=>
  cases o:((b.toNat:Int) == 47) with
  | true=>
   have d:(b.toNat:Int)=47:=by simpa using o
   have a:Hid (iv b=some 63):=by
    show _=_;unfold iv;rw [if_neg (by omega),if_neg (by omega),if_neg (by omega),if_neg (by omega),if_pos (by omega)]
   clear e f h i j k;have g:(b.toNat:Int) < 48:=by omega
   clear d;go_enter Tryz.func294,Tryz.ntmps294;go_wp2
   all_goals (go_ret2;exact jn.some _ _ rfl a.out rfl rfl)
  | false=>
   have c:¬(b.toNat:Int)=43:=by simpa using n
   have d:¬(b.toNat:Int)=47:=by simpa using o
   have a:Hid (iv b=none):=by
    show _=_;unfold iv;rw [if_neg (by omega),if_neg (by omega),if_neg (by omega),if_neg (by omega),if_neg (by omega)]
   have r:(b.toNat:Int) < 48∨(57 < (b.toNat:Int)∧(b.toNat:Int) < 65)∨(90 < (b.toNat:Int)∧(b.toNat:Int) < 97)∨122 < (b.toNat:Int):=by omega
   clear e f h c d i j k
   rcases r with l | ⟨l,s⟩ | ⟨l,s⟩ | l
   all_goals
    go_enter Tryz.func294,Tryz.ntmps294;go_wp2
    go_ret2
    exact jn.none a.out rfl rfl
def stood (l:List UInt8):Nat:=if Lib.hasSuffix l [61,61] then 1 else if Lib.hasSuffix l [61] then 2 else 3
theorem gw (s:ByteArray) (w:World) (f:s.size≤maxLen):
  Calls Tryz.prog 275 #[.string s] w fun e b=>e= .returned (.int .i64 (stood s.data.toList:Nat))∧b=w:=by
 have c:Hid (∀n:Nat,stood s.data.toList=n→∀i:Int,(n:Int)=i→Ending.returned (.int .i64 i)= .returned (.int .i64 (stood s.data.toList:Nat))):=fun n h i j=>by rw [h,j]
 cases d:Lib.hasSuffix s.data.toList [61,61] with
 | true=>
  have a:Hid (stood s.data.toList=1):=by show _=_;unfold stood;rw [d];rfl
  go_enter Tryz.func275,Tryz.ntmps275;go_wp2_with (go_at_call 214;refine (Tryz.strings_HasSuffix _ _ _ f).mono ?_;rintro e b ⟨rfl,rfl⟩)
  go_ret;exact ⟨c.out _ a.out _ rfl,rfl⟩
 | false=>
  cases g:Lib.hasSuffix s.data.toList [61] with
  | true=>
   have a:Hid (stood s.data.toList=2):=by show _=_;unfold stood;rw [d,g];rfl
   go_enter Tryz.func275,Tryz.ntmps275;go_wp2_with (go_at_call 214;refine (Tryz.strings_HasSuffix _ _ _ f).mono ?_;rintro e b ⟨rfl,rfl⟩)
   go_ret;exact ⟨c.out _ a.out _ rfl,rfl⟩
  | false=>
   have a:Hid (stood s.data.toList=3):=by show _=_;unfold stood;rw [d,g];rfl
   go_enter Tryz.func275,Tryz.ntmps275;go_wp2_with (go_at_call 214;refine (Tryz.strings_HasSuffix _ _ _ f).mono ?_;rintro e b ⟨rfl,rfl⟩)
   go_ret;exact ⟨c.out _ a.out _ rfl,rfl⟩
def jY (l:List UInt8):Nat→Nat
 | 0=>0
 | k+1=>jY l k+(iv (l.getD k 0)).getD 0 * 2 ^ (18 - 6 * k)
theorem zG (c:UInt8):(iv c).getD 0 < 64:=by
 cases h:iv c with
 | none=>decide
 | some k=>exact (dy h).1
theorem Cb (l:List UInt8) (k:Nat) (h:k≤4):∃m,jY l k=m * 2 ^ (24 - 6 * k)∧jY l k < 16777216:=by
 have b:=zG (l.getD 0 0);have c:=zG (l.getD 1 0);have d:=zG (l.getD 2 0);have e:=zG (l.getD 3 0);have a:k=0∨k=1∨k=2∨k=3∨k=4:=by omega
 rcases a with rfl | rfl | rfl | rfl | rfl
 ·exact ⟨0,by simp [jY],by simp [jY]⟩
 ·refine ⟨(iv (l.getD 0 0)).getD 0,?_,?_⟩ <;> simp only [jY] <;> omega
 ·refine ⟨(iv (l.getD 0 0)).getD 0 * 64+(iv (l.getD 1 0)).getD 0,?_,?_⟩ <;> simp only [jY] <;> omega
 ·refine ⟨((iv (l.getD 0 0)).getD 0 * 64+(iv (l.getD 1 0)).getD 0) * 64+(iv (l.getD 2 0)).getD 0,?_,?_⟩ <;> simp only [jY] <;> omega
 ·refine ⟨jY l 4,by omega,?_⟩
  simp only [jY];omega
theorem J3 (m q k:Nat) (b:q < 64) (f:k≤3) (d:m * 2 ^ (24 - 6 * k) < 16777216):
  bits BinOp.or IntKind.u32 ((m * 2 ^ (24 - 6 * k):Nat):Int) ((q:Int) * 2 ^ (18 - 6 * k) % 4294967296)=((m * 2 ^ (24 - 6 * k)+q * 2 ^ (18 - 6 * k):Nat):Int):=by
 have a:q * 2 ^ (18 - 6 * k) < 2 ^ (24 - 6 * k):=by
  rw [show 24 - 6 * k=6+(18 - 6 * k) by omega,Nat.pow_add]
  exact Nat.mul_lt_mul_of_pos_right b (Nat.pow_pos (by decide))
 have c:q * 2 ^ (18 - 6 * k) < 16777216:=by
  refine Nat.lt_of_lt_of_le a ?_;have:(16777216:Nat)=2 ^ 24:=rfl;rw [this];exact Nat.pow_le_pow_right (by decide) (by omega)
 have e:((q:Int) * 2 ^ (18 - 6 * k) % 4294967296)=((q * 2 ^ (18 - 6 * k):Nat):Int):=by
  rw [Int.natCast_mul,Int.natCast_pow];refine Int.emod_eq_of_lt ?_ ?_
  ·have:(0:Int)≤((q * 2 ^ (18 - 6 * k):Nat):Int):=Int.natCast_nonneg _;rw [Int.natCast_mul,Int.natCast_pow] at this;exact this
  ·have:((q * 2 ^ (18 - 6 * k):Nat):Int) < 4294967296:=by omega
   rw [Int.natCast_mul,Int.natCast_pow] at this;exact this
 rw [e,u32_or_nat _ _ (by omega) (by omega)]
 congr 1
 rw [←Nat.shiftLeft_eq m,Nat.shiftLeft_add_eq_or_of_lt a]
def kq (l:List UInt8) (w:World) (e:Ending) (w':World):Prop:=
 (if l.all (fun c=>(iv c).isSome) then e= .returned (.tuple #[.int .u32 (jY l l.length:Nat),.bool true]) else e= .returned (.tuple #[.int .u32 0,.bool false]))∧w'=w
theorem kq.yes {l:List UInt8} {w:World} {e:Ending} {a:World} (h:l.all (fun c=>(iv c).isSome)=true) (b:e= .returned (.tuple #[.int .u32 (jY l l.length:Nat),.bool true])) (d:a=w):kq l w e a:=⟨by rw [h];exact b,d⟩
theorem kq.no {l:List UInt8} {w:World} {e:Ending} {a:World} (h:l.all (fun c=>(iv c).isSome)=false) (b:e= .returned (.tuple #[.int .u32 0,.bool false])) (d:a=w):kq l w e a:=⟨by rw [h];exact b,d⟩
theorem mC (s:ByteArray) (w:World) (B:s.size≤4):
  Calls Tryz.prog 276 #[.string s] w (kq s.data.toList w):=by
 go_enter Tryz.func276,Tryz.ntmps276;go_wp2
 go_loop [4,10] (fun v i=>∃k V:Nat,k≤s.size∧i= .int .i64 k∧v= .int .u32 V∧Hid (jY s.data.toList k=V)∧Hid (∀j:Nat,j < k→(iv (s.data.toList.getD j 0)).isSome=true)) (fun _ i=>s.size - (intOf i).toNat)
 case atStart=>exact ⟨0,0,Nat.zero_le _,rfl,rfl,rfl,fun j r=>by omega⟩
 case round=>
  obtain ⟨k,V,z,rfl,rfl,f,l⟩:=hrel
  by_cases d:k < s.size
  ·have g:Hid (s.data.toList.getD k 0=s[k]):=pN s k d;obtain ⟨o,t⟩:∃o,iv s[k]=o:=⟨_,rfl⟩;have a:=Lib.hid t;clear t
   have u:(V:Int) < 16777216:=by
    obtain ⟨_,_,h⟩:=Cb s.data.toList k (by omega);rw [f.out] at h;omega
   have y:(k:Int)≤3:=by omega
   go_wp2_with fail
   refine (sG _ _).mono ?_;rintro e C ⟨rfl,rfl⟩;rw [a.out]
   cases o with
   | none=>
    simp only [Option.getD_none,Option.isSome_none];go_wp2_with fail
    go_ret2
    exact kq.no (qH (p:=fun c=>(iv c).isSome) (k:=k) (by rw [aJ];exact d) (by rw [g.out,a.out];rfl)) rfl rfl
   | some q=>
    have A:(q:Int) < 64:=by have:=(dy a.out).1;omega
    simp only [Option.getD_some,Option.isSome_some];go_wp2_with fail
    refine ⟨⟨k+1,jY s.data.toList (k+1),by omega,by go_num,?_,rfl,qj (p:=fun c=>(iv c).isSome) l.out g.out (by rw [a.out];rfl)⟩,by simp [intOf];omega⟩
    obtain ⟨m,n,x⟩:=Cb s.data.toList k (by omega);rw [jY,g.out,a.out,Option.getD_some,←f.out,n,J3 m q k (by omega) (by omega) (by rw [←n];exact x)]
  ·have b:Hid (k=s.data.toList.length):=by
    show _=_;rw [aJ];omega
   go_wp2
   go_ret2
   exact kq.yes (yx (p:=fun c=>(iv c).isSome) (fun j r=>l.out j (by rw [b.out];exact r))) (by rw [←b.out,f.out];rfl) rfl
def fi (o:Option (List UInt8)) (w:World) (e:Ending) (w':World):Prop:=
 (match o with | some g=>e= .returned (.tuple #[.string ⟨g.toArray⟩,.bool true]) | none=>e= .returned (.tuple #[.string ⟨#[]⟩,.bool false]))∧Below w.heap.size w w'
theorem fi.yes {o:Option (List UInt8)} {w:World} {e:Ending} {a:World} (g:List UInt8) (h:o=some g) (b:e= .returned (.tuple #[.string ⟨g.toArray⟩,.bool true])) (c:Below w.heap.size w a):fi o w e a:=by subst h;exact ⟨b,c⟩
theorem fi.no {o:Option (List UInt8)} {w:World} {e:Ending} {a:World} (h:o=none) (b:e= .returned (.tuple #[.string ⟨#[]⟩,.bool false])) (c:Below w.heap.size w a):fi o w e a:=by subst h;exact ⟨b,c⟩
theorem pf (w:World) (W n a:Nat) (e:W < 16777216) (f:n≤3):
  (convert 114 9 (.slice (some ⟨w.heap.size,0,none⟩) n a)).run Tryz.prog (w.alloc (.cells #[.int .u8 ((W:Int) / 65536),.int .u8 ((W:Int) / 256 % 256),.int .u8 ((W:Int) % 256)] 300))= .ok (.string ⟨([sj (W / 65536),sj (W / 256),sj W].take n).toArray⟩) (w.alloc (.cells #[.int .u8 ((W:Int) / 65536),.int .u8 ((W:Int) / 256 % 256),.int .u8 ((W:Int) % 256)] 300)):=by
 refine oP _ w.heap.size a n _ (by simp;omega) (fun j d=>?_);have c:∀i:Nat,(w.alloc (.cells #[.int .u8 ((W:Int) / 65536),.int .u8 ((W:Int) / 256 % 256),.int .u8 ((W:Int) % 256)] 300)).cell? ⟨w.heap.size,i,none⟩=#[Value.int .u8 ((W:Int) / 65536),.int .u8 ((W:Int) / 256 % 256),.int .u8 ((W:Int) % 256)][i]? :=fun i=>World.cell?_alloc_mark w _ 300 (0,0) i;rw [c j,List.getD_eq_getElem?_getD,List.getElem?_take_of_lt d];have b:j=0∨j=1∨j=2:=by omega
 rcases b with rfl | rfl | rfl
 ·show some (Value.int .u8 ((W:Int) / 65536))=some (.int .u8 ((sj (W / 65536)).toNat:Int));rw [fk,show (((W / 65536) % 256:Nat):Int)=(W:Int) / 65536 by omega]
 ·show some (Value.int .u8 ((W:Int) / 256 % 256))=some (.int .u8 ((sj (W / 256)).toNat:Int));rw [fk,show (((W / 256) % 256:Nat):Int)=(W:Int) / 256 % 256 by omega]
 ·show some (Value.int .u8 ((W:Int) % 256))=some (.int .u8 ((sj W).toNat:Int));rw [fk,show ((W % 256:Nat):Int)=(W:Int) % 256 by omega]
theorem wj {s:ByteArray} {w:World} (d:s.size≤4) (W:Nat) (h:s.data.toList.all (fun c=>(iv c).isSome)=true) (b:jY s.data.toList s.data.toList.length=W):
  Calls Tryz.prog 276 #[.string s] w fun e f=>e= .returned (.tuple #[.int .u32 W,.bool true])∧f=w:=by
 refine (mC s w d).mono ?_;rintro e g ⟨a,rfl⟩;rw [h] at a;exact ⟨by rw [←b];exact a,rfl⟩
theorem zI {s:ByteArray} {w:World} (b:s.size≤4) (h:s.data.toList.all (fun c=>(iv c).isSome)=false):
  Calls Tryz.prog 276 #[.string s] w fun e d=>e= .returned (.tuple #[.int .u32 0,.bool false])∧d=w:=by
 refine (mC s w b).mono ?_;rintro e f ⟨a,rfl⟩;rw [h] at a;exact ⟨a,rfl⟩
theorem uf (s:ByteArray) (w:World) (d:s.size=4) (a:stood s.data.toList=1) (b:(s.extract 0 2).data.toList.all (fun c=>(iv c).isSome)=false):
  Calls Tryz.prog 247 #[.string s] w (fi none w):=by
 have f:=Lib.hid b;clear b;have i:Hid ((s.extract 0 2).size≤4):=by show _≤_;simp;omega
 have h:=Lib.hid a;clear a;have g:=Lib.hid d;have j:(4:Int)≤(s.size:Int):=by omega
 clear d;go_enter Tryz.func247,Tryz.ntmps247;go_wp2_with fail
 refine (gw s _ (by unfold maxLen;have:=g.out;omega)).mono ?_;rintro e k ⟨rfl,rfl⟩;rw [h.out];go_wp2_with fail
 refine (zI (s:=s.extract 0 2) i.out f.out).mono ?_;rintro e l ⟨rfl,rfl⟩;go_wp2_with fail
 go_ret2
 exact fi.no rfl rfl (Below.refl _ _)
theorem AG (s:ByteArray) (w:World) (j:s.size=4) (b:stood s.data.toList=1) (g:(s.extract 0 2).data.toList.all (fun c=>(iv c).isSome)=true) (W:Nat) (k:jY (s.extract 0 2).data.toList (s.extract 0 2).data.toList.length=W) (v:W < 16777216) (o:Option (List UInt8)) (h:o=(if W / 256 % 256=0∧W % 256=0 then some [sj (W / 65536)] else none)):
  Calls Tryz.prog 247 #[.string s] w (fi o w):=by
 have d:=Lib.hid h;have n:=Lib.hid g;have r:=Lib.hid k;clear g k h;have u:Hid ((s.extract 0 2).size≤4):=by show _≤_;simp;omega
 have f:=pf w W 1 3 v (by decide);have q:=Lib.hid b;clear b;have p:=Lib.hid j;have x:(4:Int)≤(s.size:Int):=by omega
 clear j;go_enter Tryz.func247,Tryz.ntmps247;go_wp2_with fail
 refine (gw s _ (by unfold maxLen;have:=p.out;omega)).mono ?_;rintro e y ⟨rfl,rfl⟩;rw [q.out];go_wp2_with fail
 refine (wj (s:=s.extract 0 2) u.out W n.out r.out).mono ?_;rintro e z ⟨rfl,rfl⟩
 cases l:(((W:Int) / 256 % 256) != 0) with
 | true=>
  have a:Hid (¬(W / 256 % 256=0∧W % 256=0)):=by
   show ¬_;have:¬(W:Int) / 256 % 256=0:=by simpa using l
   omega
  go_wp2_with fail
  go_loop [34] (fun i=>i= .int .i64 0) (fun i=>1 - (intOf i).toNat)
  case atStart=>rfl
  case round=>
   subst hrel;go_wp2
   go_ret2
   exact fi.no (d.out.trans (if_neg a.out)) rfl ((Below.refl _ _).alloc (Nat.le_refl _) _)
 | false=>
  have t:Hid ((W:Int) / 256 % 256=0):=by
   show (W:Int) / 256 % 256=0;simpa using l
  cases m:(((W:Int) % 256) != 0) with
  | true=>
   have a:Hid (¬(W / 256 % 256=0∧W % 256=0)):=by
    show ¬_;have:¬(W:Int) % 256=0:=by simpa using m
    omega
   go_wp2_with fail
   go_loop [34] (fun i=>i= .int .i64 0∨i= .int .i64 1) (fun i=>2 - (intOf i).toNat)
   case atStart=>exact Or.inl rfl
   case round=>
    rcases hrel with rfl | rfl
    ·go_wp2
     go_round
     case rel=>exact Or.inr rfl
     case measure=>decide
    ·go_wp2
     go_ret2
     exact fi.no (d.out.trans (if_neg a.out)) rfl ((Below.refl _ _).alloc (Nat.le_refl _) _)
  | false=>
   have a:Hid (W / 256 % 256=0∧W % 256=0):=by
    show _∧_;have:(W:Int) % 256=0:=by simpa using m
    have:=t.out;omega
   go_wp2_with fail
   go_loop [34] (fun i=>i= .int .i64 0∨i= .int .i64 1∨i= .int .i64 2) (fun i=>2 - (intOf i).toNat)
   case atStart=>exact Or.inl rfl
   case round=>
    rcases hrel with rfl | rfl | rfl
    ·go_wp2
     go_round
     case rel=>exact Or.inr (Or.inl rfl)
     case measure=>decide
    ·go_wp2
     go_round
     case rel=>exact Or.inr (Or.inr rfl)
     case measure=>decide
    ·go_wp2
     go_ret2
     exact fi.yes _ (d.out.trans (if_pos a.out)) rfl ((Below.refl _ _).alloc (Nat.le_refl _) _)
theorem oU (s:ByteArray) (w:World) (d:s.size=4) (a:stood s.data.toList=2) (b:(s.extract 0 3).data.toList.all (fun c=>(iv c).isSome)=false):
  Calls Tryz.prog 247 #[.string s] w (fi none w):=by
 have f:=Lib.hid b;clear b;have i:Hid ((s.extract 0 3).size≤4):=by show _≤_;simp;omega
 have h:=Lib.hid a;clear a;have g:=Lib.hid d;have j:(4:Int)≤(s.size:Int):=by omega
 clear d;go_enter Tryz.func247,Tryz.ntmps247;go_wp2_with fail
 refine (gw s _ (by unfold maxLen;have:=g.out;omega)).mono ?_;rintro e k ⟨rfl,rfl⟩;rw [h.out];go_wp2_with fail
 refine (zI (s:=s.extract 0 3) i.out f.out).mono ?_;rintro e l ⟨rfl,rfl⟩;go_wp2_with fail
 go_ret2
 exact fi.no rfl rfl (Below.refl _ _)
theorem AH (s:ByteArray) (w:World) (j:s.size=4) (a:stood s.data.toList=2) (g:(s.extract 0 3).data.toList.all (fun c=>(iv c).isSome)=true) (W:Nat) (k:jY (s.extract 0 3).data.toList (s.extract 0 3).data.toList.length=W) (t:W < 16777216) (o:Option (List UInt8)) (h:o=(if W % 256=0 then some [sj (W / 65536),sj (W / 256)] else none)):
  Calls Tryz.prog 247 #[.string s] w (fi o w):=by
 have f:=Lib.hid h;have m:=Lib.hid g;have q:=Lib.hid k;clear g k h;have r:Hid ((s.extract 0 3).size≤4):=by show _≤_;simp;omega
 have d:=pf w W 2 3 t (by decide);have p:=Lib.hid a;clear a;have n:=Lib.hid j;have u:(4:Int)≤(s.size:Int):=by omega
 clear j;go_enter Tryz.func247,Tryz.ntmps247;go_wp2_with fail
 refine (gw s _ (by unfold maxLen;have:=n.out;omega)).mono ?_;rintro e v ⟨rfl,rfl⟩;rw [p.out];go_wp2_with fail
 refine (wj (s:=s.extract 0 3) r.out W m.out q.out).mono ?_;rintro e x ⟨rfl,rfl⟩
 cases l:(((W:Int) % 256) != 0) with
 | true=>
  have b:Hid (¬W % 256=0):=by
   show ¬_;have:¬(W:Int) % 256=0:=by simpa using l
   omega
  go_wp2_with fail
  go_loop [34] (fun i=>i= .int .i64 0) (fun i=>1 - (intOf i).toNat)
  case atStart=>rfl
  case round=>
   subst hrel;go_wp2
   go_ret2
   exact fi.no (f.out.trans (if_neg b.out)) rfl ((Below.refl _ _).alloc (Nat.le_refl _) _)
 | false=>
  have b:Hid (W % 256=0):=by
   show W % 256=0;have:(W:Int) % 256=0:=by simpa using l
   omega
  go_wp2_with fail
  go_loop [34] (fun i=>i= .int .i64 0∨i= .int .i64 1) (fun i=>1 - (intOf i).toNat)
  case atStart=>exact Or.inl rfl
  case round=>
   rcases hrel with rfl | rfl
   ·go_wp2
    go_round
    case rel=>exact Or.inr rfl
    case measure=>decide
   ·go_wp2
    go_ret2
    exact fi.yes _ (f.out.trans (if_pos b.out)) rfl ((Below.refl _ _).alloc (Nat.le_refl _) _)
theorem lN (s:ByteArray) (w:World) (d:s.size=4) (a:stood s.data.toList=3) (b:(s.extract 0 4).data.toList.all (fun c=>(iv c).isSome)=false):
  Calls Tryz.prog 247 #[.string s] w (fi none w):=by
 have f:=Lib.hid b;clear b;have i:Hid ((s.extract 0 4).size≤4):=by show _≤_;simp;omega
 have h:=Lib.hid a;clear a;have g:=Lib.hid d;have j:(4:Int)≤(s.size:Int):=by omega
 clear d;go_enter Tryz.func247,Tryz.ntmps247;go_wp2_with fail
 refine (gw s _ (by unfold maxLen;have:=g.out;omega)).mono ?_;rintro e k ⟨rfl,rfl⟩;rw [h.out];go_wp2_with fail
 refine (zI (s:=s.extract 0 4) i.out f.out).mono ?_;rintro e l ⟨rfl,rfl⟩;go_wp2_with fail
 go_ret2
 exact fi.no rfl rfl (Below.refl _ _)
theorem AI (s:ByteArray) (w:World) (g:s.size=4) (a:stood s.data.toList=3) (d:(s.extract 0 4).data.toList.all (fun c=>(iv c).isSome)=true) (W:Nat) (h:jY (s.extract 0 4).data.toList (s.extract 0 4).data.toList.length=W) (q:W < 16777216) (o:Option (List UInt8)) (f:o=(some [sj (W / 65536),sj (W / 256),sj W])):
  Calls Tryz.prog 247 #[.string s] w (fi o w):=by
 have k:=Lib.hid f;have j:=Lib.hid d;have n:=Lib.hid h;clear d h f;have p:Hid ((s.extract 0 4).size≤4):=by show _≤_;simp;omega
 have b:=pf w W 3 3 q (by decide);have m:=Lib.hid a;clear a;have l:=Lib.hid g;have r:(4:Int)≤(s.size:Int):=by omega
 clear g;go_enter Tryz.func247,Tryz.ntmps247;go_wp2_with fail
 refine (gw s _ (by unfold maxLen;have:=l.out;omega)).mono ?_;rintro e t ⟨rfl,rfl⟩;rw [m.out];go_wp2_with fail
 refine (wj (s:=s.extract 0 4) p.out W j.out n.out).mono ?_;rintro e u ⟨rfl,rfl⟩;go_wp2_with fail
 go_loop [34] (fun i=>i= .int .i64 0) (fun _=>0)
 case atStart=>rfl
 case round=>
  subst hrel;go_wp2
  go_ret2
  exact fi.yes _ k.out rfl ((Below.refl _ _).alloc (Nat.le_refl _) _)
theorem J5 (a b c d:UInt8):stood [a,b,c,d]=if d=61 then (if c=61 then 1 else 2) else 3:=by
 have f:Lib.hasSuffix [a,b,c,d] [61,61]=(d == 61 && c == 61):=by
  simp only [Lib.hasSuffix,List.isSuffixOf,List.reverse_cons,List.reverse_nil,List.nil_append,List.cons_append,List.isPrefixOf,Bool.and_true];rw [BEq.comm (a:=(61:UInt8)) (b:=d),BEq.comm (a:=(61:UInt8)) (b:=c)]
 have g:Lib.hasSuffix [a,b,c,d] [61]=(d == 61):=by
  simp only [Lib.hasSuffix,List.isSuffixOf,List.reverse_cons,List.reverse_nil,List.nil_append,List.cons_append,List.isPrefixOf,Bool.and_true];rw [BEq.comm (a:=(61:UInt8)) (b:=d)]
 unfold stood;rw [f,g]
 by_cases e:d=61
 ·by_cases h:c=61 <;> simp [e,h]
 ·simp [e]
theorem wZ (s:ByteArray) (a b c d:UInt8) (w:World) (h:s.data.toList=[a,b,c,d]):
  Calls Tryz.prog 247 #[.string s] w (fi (Gc a b c d) w):=by
 have j:s.size=4:=by rw [←aJ,h];rfl
 have v:(s.extract 0 2).data.toList=[a,b]:=by rw [Lib.extract_data,h];rfl
 have n:(s.extract 0 3).data.toList=[a,b,c]:=by rw [Lib.extract_data,h];rfl
 have l:(s.extract 0 4).data.toList=[a,b,c,d]:=by rw [Lib.extract_data,h];rfl
 have e:=J5 a b c d
 by_cases o:d=61
 ·rw [if_pos o] at e
  by_cases x:c=61
  ·rw [if_pos x] at e;have u:Gc a b c d=g1 a b:=by unfold Gc;rw [if_pos o,if_pos x]
   rw [u]
   cases f:iv a with
   | none=>
    have:g1 a b=none:=by unfold g1;rw [f]
    rw [this];exact uf s w j (by rw [h,e]) (by rw [v];simp [f])
   | some p=>
    cases g:iv b with
    | none=>
     have:g1 a b=none:=by unfold g1;rw [f,g]
     rw [this];exact uf s w j (by rw [h,e]) (by rw [v];simp [f,g])
    | some q=>
     have y:=(dy f).1;have z:=(dy g).1;refine AG s w j (by rw [h,e]) (by rw [v];simp [f,g]) (p * 262144+q * 4096) ?_ (by omega) _ ?_
     ·rw [v];show jY [a,b] 2=_;simp only [jY];show 0+(iv a).getD 0 * 262144+(iv b).getD 0 * 4096=_;rw [f,g];simp
     ·unfold g1;rw [f,g];simp only
      by_cases k:q % 16=0
      ·rw [if_pos k,if_pos (by omega),show (p * 262144+q * 4096) / 65536=p * 4+q / 16 by omega]
      ·rw [if_neg k,if_neg (by omega)]
  ·rw [if_neg x] at e;have u:Gc a b c d=g2 a b c:=by unfold Gc;rw [if_pos o,if_neg x]
   rw [u]
   cases f:iv a with
   | none=>
    have:g2 a b c=none:=by unfold g2;rw [f]
    rw [this];exact oU s w j (by rw [h,e]) (by rw [n];simp [f])
   | some p=>
    cases g:iv b with
    | none=>
     have:g2 a b c=none:=by unfold g2;rw [f,g]
     rw [this];exact oU s w j (by rw [h,e]) (by rw [n];simp [f,g])
    | some q=>
     cases i:iv c with
     | none=>
      have:g2 a b c=none:=by unfold g2;rw [f,g,i]
      rw [this];exact oU s w j (by rw [h,e]) (by rw [n];simp [f,g,i])
     | some r=>
      have y:=(dy f).1;have z:=(dy g).1;have A:=(dy i).1;refine AH s w j (by rw [h,e]) (by rw [n];simp [f,g,i]) (p * 262144+q * 4096+r * 64) ?_ (by omega) _ ?_
      ·rw [n];show jY [a,b,c] 3=_;simp only [jY];show 0+(iv a).getD 0 * 262144+(iv b).getD 0 * 4096+(iv c).getD 0 * 64=_;rw [f,g,i];simp
      ·unfold g2;rw [f,g,i];simp only
       by_cases k:r % 4=0
       ·rw [if_pos k,if_pos (by omega),show (p * 262144+q * 4096+r * 64) / 65536=p * 4+q / 16 by omega,Ch ((p * 262144+q * 4096+r * 64) / 256) (sj (q % 16 * 16+r / 4)) (by rw [fk];omega)]
       ·rw [if_neg k,if_neg (by omega)]
 ·rw [if_neg o] at e;have u:Gc a b c d=g3 a b c d:=by unfold Gc;rw [if_neg o]
  rw [u]
  cases f:iv a with
  | none=>
   have:g3 a b c d=none:=by unfold g3;rw [f]
   rw [this];exact lN s w j (by rw [h,e]) (by rw [l];simp [f])
  | some p=>
   cases g:iv b with
   | none=>
    have:g3 a b c d=none:=by unfold g3;rw [f,g]
    rw [this];exact lN s w j (by rw [h,e]) (by rw [l];simp [f,g])
   | some q=>
    cases i:iv c with
    | none=>
     have:g3 a b c d=none:=by unfold g3;rw [f,g,i]
     rw [this];exact lN s w j (by rw [h,e]) (by rw [l];simp [f,g,i])
    | some r=>
     cases m:iv d with
     | none=>
      have:g3 a b c d=none:=by unfold g3;rw [f,g,i,m]
      rw [this];exact lN s w j (by rw [h,e]) (by rw [l];simp [f,g,i,m])
     | some t=>
      have y:=(dy f).1;have z:=(dy g).1;have A:=(dy i).1;have B:=(dy m).1;refine AI s w j (by rw [h,e]) (by rw [l];simp [f,g,i,m]) (p * 262144+q * 4096+r * 64+t) ?_ (by omega) _ ?_
      ·rw [l];show jY [a,b,c,d] 4=_;simp only [jY];show 0+(iv a).getD 0 * 262144+(iv b).getD 0 * 4096+(iv c).getD 0 * 64+(iv d).getD 0 * 1=_;rw [f,g,i,m];simp
      ·unfold g3;rw [f,g,i,m];simp only;rw [show (p * 262144+q * 4096+r * 64+t) / 65536=p * 4+q / 16 by omega,Ch ((p * 262144+q * 4096+r * 64+t) / 256) (sj (q % 16 * 16+r / 4)) (by rw [fk];omega),Ch (p * 262144+q * 4096+r * 64+t) (sj (r % 4 * 64+t)) (by rw [fk];omega)]
theorem sM (B b:Nat) (bs:List Value) (s:ByteArray) (w:World) (h:Lib.IsBuilderF 133 5 B b bs w) (a:bs.length+s.size≤140737488355328) (c:B≤w.heap.size):
  Calls Tryz.prog 96 #[.pointer (some ⟨b,0,none⟩),.string s] w fun e d=>e= .returned (.tuple #[.int .i64 s.size,.nilIface])∧(Lib.BuilderAtF 133 5 B b (.pointer (some ⟨b,0,none⟩)) (bs++Lib.strCells s) d∧Below B w d∧Lib.OthersKept 5 (some b) w d):=
 Any.Builder_WriteString_k {Tryz.lays159 with} Tryz.Builder_Extra_159 B b bs s w h a c
theorem pB (B b:Nat) (l:List UInt8) (w:World) (h:Lib.IsBuilderF 133 5 B b (Lib.byteCells l) w) (a:B≤w.heap.size):
  Calls Tryz.prog 64 #[.pointer (some ⟨b,0,none⟩)] w fun e c=>e= .returned (.string ⟨l.toArray⟩)∧(Lib.IsBuilderF 133 5 B b (Lib.byteCells l) c∧Below B w c∧Lib.OthersKept 5 (some b) w c):=
 Any.Builder_String_any_k Tryz.lays169 Tryz.Builder_Extra_169 B b l w h a
theorem om {T e:TypeId} {B b:Nat} {p:Value} {bs:List Value} {W g:World} (h:Lib.BuilderAtF T e B b p bs W) (a:Below W.heap.size W g):Lib.BuilderAtF T e B b p bs g:=by
 have d:=h.lt;obtain ⟨i,v,l,c,f⟩:=h;exact ⟨i,v,(a.block b d).trans l,c.kept (row:=none) ⟨a.os,a.tape,a.output,a.size,fun k j _=>a.block k j⟩ (Classical.em _),f⟩
theorem sy {T e:TypeId} {B b:Nat} {bs:List Value} {W a:World} (h:Lib.IsBuilderF T e B b bs W) (c:Below W.heap.size W a):Lib.IsBuilderF T e B b bs a:=
 h.elim (fun x=> .inl (om x c)) (fun x=> .inr (om x c))
def j5 (o:Option (List UInt8)) (w:World) (e:Ending) (w':World):Prop:=
 (match o with | some g=>e= .returned (.tuple #[.string ⟨g.toArray⟩,.bool true]) | none=>e= .returned (.tuple #[.string ⟨#[]⟩,.bool false]))∧Below w.heap.size w w'
theorem j5.yes {o:Option (List UInt8)} {w:World} {e:Ending} {a:World} (g:List UInt8) (h:o=some g) (b:e= .returned (.tuple #[.string ⟨g.toArray⟩,.bool true])) (c:Below w.heap.size w a):j5 o w e a:=by subst h;exact ⟨b,c⟩
theorem j5.no {o:Option (List UInt8)} {w:World} {e:Ending} {a:World} (h:o=none) (b:e= .returned (.tuple #[.string ⟨#[]⟩,.bool false])) (c:Below w.heap.size w a):j5 o w e a:=by subst h;exact ⟨b,c⟩
def Jy (v:Value):Nat:=match v with | .string t=>t.size | _=>0
def IZ (l:List UInt8) (w:World) (s:Value) (w':World):Prop:=
 ∃(t:ByteArray) (acc:List UInt8),s= .string t∧t.size % 4=0∧acc.length+t.size≤l.length∧kv l=(kv t.data.toList).map (acc++·)∧Lib.IsBuilderF 133 5 w.heap.size w.heap.size (Lib.byteCells acc) w'∧Below w.heap.size w w'∧w.heap.size < w'.heap.size
theorem pJ:∀l:List UInt8,l.length % 4≠0→kv l=none
 | [],h=>absurd rfl h
 | [_],_=>rfl
 | [_,_],_=>rfl
 | [_,_,_],_=>rfl
 | a::b::c::d::r,h=>by
  have:=pJ r (by simp at h;omega);rw [kv]
  split
  ·rfl
  ·split
   ·rfl
   ·rw [this]
theorem Jc {a b c d:UInt8} {g:List UInt8} (h:Gc a b c d=some g):1≤g.length∧g.length≤3:=by
 unfold Gc at h
 split at h
 ·split at h
  ·have:=(Kj h).2;omega
  ·have:=(Kk h).2;omega
 ·have:=(Kl h).2;omega
theorem rR (s:ByteArray) (w:World) (hs:s.size≤140737488355328):
  Calls Tryz.prog 209 #[.string s] w (j5 (kv s.data.toList) w):=by
 obtain ⟨O,L⟩:∃O,kv s.data.toList=O:=⟨_,rfl⟩;rw [L];have I:=Lib.hid L;clear L
 cases W:(((s.size:Int) % 4) != 0) with
 | true=>
  have q:Hid (O=none):=by
   show _=_;rw [←I.out];refine pJ _ ?_;have:¬(s.size:Int) % 4=0:=by simpa using W
   rw [aJ];omega
  go_enter Tryz.func209,Tryz.ntmps209;go_wp2
  go_ret2
  exact j5.no q.out rfl (Below.refl _ _)
 | false=>
  have S:(s.size:Int) % 4=0:=by simpa using W
  have Y:Hid (s.size % 4=0):=by show s.size % 4=0;omega
  clear S;go_enter Tryz.func209,Tryz.ntmps209;go_wp2
  go_loopw [0] (fun t w'=>IZ s.data.toList w t w') (fun t _=>Jy t)
  case atStart=>exact ⟨s,[],rfl,Y.out,by rw [aJ];simp,by simp,Lib.IsBuilderF.of (Lib.fresh_isBuilder 133 5 w),(Below.refl _ _).alloc (Nat.le_refl _) _,by simp⟩
  case round=>
   obtain ⟨t,f,rfl,a4,C,l,V,k,n⟩:=hrel;rw [aJ] at C;rw [I.out] at l;have H:=Lib.hid l;have F:=Lib.hid V;clear l V
   by_cases Z:t.size=0
   ·have X:Hid (O=some f):=by
     show _=_;rw [H.out]
     have:t.data.toList=[]:=by
      rw [←List.length_eq_zero_iff,aJ];exact Z
     rw [this];simp [kv]
    have N:=Nat.le_of_lt n;go_wp2_with fail
    refine (pB _ _ f _ F.out N).mono ?_;rintro e T ⟨rfl,_,j,_⟩;go_wp2_with fail
    go_ret2
    exact j5.yes f X.out rfl (k.trans j)
   ·have h4:4≤t.size:=by omega
    obtain ⟨a,b,c,d,r,B⟩:∃a b c d r,t.data.toList=a::b::c::d::r:=by
     have v:4≤t.data.toList.length:=by rw [aJ];exact h4
     match h:t.data.toList,v with
     | a::b::c::d::r,_=>exact ⟨a,b,c,d,r,rfl⟩
    have P:Hid ((t.extract 0 4).data.toList=[a,b,c,d]):=by
     show _=_;rw [Lib.extract_data,B];rfl
    have m:Hid ((t.extract 4 t.size).data.toList=r):=by
     show _=_;rw [Lib.extract_to_end,B];rfl
    have D:r.length+4=t.size:=by
     rw [←aJ t,B];rfl
    have p:Hid (O=(match Gc a b c d with | none=>none | some g=>if g.length < 3∧r≠[] then none else match kv r with | none=>none | some y=>some (g++y):Option (List UInt8)).map (f++·)):=by
     show _=_;rw [H.out,B];rfl
    clear B H;obtain ⟨J,A⟩:∃J,Gc a b c d=J:=⟨_,rfl⟩;have z:=Lib.hid A;clear A;have a0:(4:Int)≤(t.size:Int):=by omega
    go_wp2_with fail
    refine (wZ (t.extract 0 4) a b c d _ P.out).mono ?_;rw [z.out];rintro e T ⟨E,j⟩
    cases J with
    | none=>
     simp only at E;subst E;have q:Hid (O=none):=by show _=_;rw [p.out,z.out];rfl
     go_wp2_with fail
     go_ret2
     exact j5.no q.out rfl (k.trans (j.mono (Nat.le_of_lt n)))
    | some g=>
     simp only at E;subst E;have a2:=Jc z.out;have Q:(⟨g.toArray⟩:ByteArray).size=g.length:=by simp [ByteArray.size]
     by_cases i:g.length < 3∧r≠[]
     ·have q:Hid (O=none):=by
       show _=_;rw [p.out,z.out];simp only;rw [if_pos i];rfl
      have a1:((g.length:Int) < 3):=by omega
      have a3:(0:Int) < (t.size:Int) - 4:=by
       have:1≤r.length:=by
        cases r with
        | nil=>exact absurd rfl i.2
        | cons _ _=>simp
       omega
      go_wp2_with fail
      go_ret2
      exact j5.no q.out rfl (k.trans (j.mono (Nat.le_of_lt n)))
     ·have q:Hid (O=(kv r).map ((f++g)++·)):=by
       show _=_;rw [p.out,z.out];simp only;rw [if_neg i]
       cases kv r with
       | none=>rfl
       | some y=>simp
      have u:(3:Int)≤(g.length:Int)∨((g.length:Int) < 3∧¬0 < t.size - 4):=by
       by_cases U:3≤g.length
       ·left;omega
       ·right
        refine ⟨by omega,?_⟩
        have:r=[]:=by
         cases r with
         | nil=>rfl
         | cons x y=>exact absurd ⟨by omega,by simp⟩ i
        rw [this] at D;simp at D;omega
      have G:=Lib.hid (sy F.out j);have a5:wr.heap.size≤T.heap.size:=j.size
      have R:Hid ((Lib.byteCells f).length+(⟨g.toArray⟩:ByteArray).size≤140737488355328):=by
       show _≤_;rw [Lib.byteCells_length,Q];omega
      have K:w.heap.size≤T.heap.size:=by omega
      clear i F
      rcases u with U | ⟨U,hz⟩
      all_goals
       go_wp2_with fail
       refine (sM _ _ (Lib.byteCells f) ⟨g.toArray⟩ _ G.out R.out K).mono ?_;rintro e w2 ⟨rfl,M,o,_⟩;go_wp2_with fail
       refine ⟨⟨t.extract 4 t.size,f++g,rfl,?_,?_,?_,?_,?_,?_⟩,?_⟩
       ·rw [←aJ,m.out];omega
       ·rw [←aJ (t.extract 4 t.size),m.out,aJ];simp;omega
       ·rw [I.out,m.out,q.out]
       ·refine Or.inr ?_;have:Lib.byteCells (f++g)=Lib.byteCells f++Lib.strCells ⟨g.toArray⟩:=by simp [Lib.byteCells,Lib.strCells]
        rw [this];exact M
       ·exact (k.trans (j.mono (Nat.le_of_lt n))).trans o
       ·have:=o.size;omega
       ·show (t.extract 4 t.size).size < t.size;rw [←aJ,m.out];omega
structure J8 (w:World) (k:Nat):Prop where
 blk:w.heap[k]? =some (.cells #[.int .i64 0,.string ⟨#[]⟩,.int .i64 0,.string ⟨#[]⟩] 179 (0,0))
 c0:w.cell? ⟨k,0,none⟩=some (.int .i64 0)
 c1:w.cell? ⟨k,1,none⟩=some (.string ⟨#[]⟩)
 c2:w.cell? ⟨k,2,none⟩=some (.int .i64 0)
 c3:w.cell? ⟨k,3,none⟩=some (.string ⟨#[]⟩)
 f0:w.frozen? ⟨k,0,none⟩=false
 f1:w.frozen? ⟨k,1,none⟩=false
 f2:w.frozen? ⟨k,2,none⟩=false
 f3:w.frozen? ⟨k,3,none⟩=false
theorem rB {w:World} {k:Nat} (h:w.heap[k]? =some (.cells #[.int .i64 0,.string ⟨#[]⟩,.int .i64 0,.string ⟨#[]⟩] 179 (0,0))):J8 w k:=
 ⟨h,by rw [Lib.cell_of_heap h];rfl,by rw [Lib.cell_of_heap h];rfl,by rw [Lib.cell_of_heap h];rfl,by rw [Lib.cell_of_heap h];rfl,Lib.frozen_of_heap h 0,Lib.frozen_of_heap h 1,Lib.frozen_of_heap h 2,Lib.frozen_of_heap h 3⟩
def ry (arg:List UInt8):og:=
 match fu arg [80,76,65,73,78,32] with
 | some l=>(match kv l with | some b=>⟨8,[],0,b⟩ | none=>iI)
 | none=>iI
theorem EO:kv []=some []:=rfl
theorem zs (arg:List UInt8) (w:World) (T:arg.length≤1048576) (A:fp arg):
  Calls Tryz.prog 154 #[.string (bs arg)] w fun e V=>e= .returned (jo (ry arg))∧Below w.heap.size w V:=by
 obtain ⟨r,m⟩:∃r:World,w.alloc (.cells #[.int .i64 0,.string ⟨#[]⟩,.int .i64 0,.string ⟨#[]⟩] 179)=r:=⟨_,rfl⟩;have G:Below w.heap.size w r:=by rw [←m];exact (Below.refl _ _).alloc (Nat.le_refl _) _
 have H:r.heap[w.heap.size]? =some (.cells #[.int .i64 0,.string ⟨#[]⟩,.int .i64 0,.string ⟨#[]⟩] 179 (0,0)):=by rw [←m];exact heap_alloc_new w _
 have c:=Lib.hid (jK arg [80,76,65,73,78,32] r T (by decide) A (by unfold fp;decide));have n:Hid (ry arg=match fu arg [80,76,65,73,78,32] with | some l=>(match kv l with | some b=>⟨8,[],0,b⟩ | none=>iI) | none=>iI):=Lib.hid rfl;have f:=Lib.hid G;have q:=Lib.hid H;have p:=Lib.hid m;clear G H m
 cases g:fu arg [80,76,65,73,78,32] with
 | none=>
  rw [g] at c n;simp only [xz] at c;have i:Hid (ry arg=iI):=Lib.hid n.out;have d:=Lib.hid (rR ⟨#[]⟩ r (by decide));clear g n A;go_enter Tryz.func154,Tryz.ntmps154;go_wp2_with fail
  rw [p.out];refine c.out.mono ?_;rintro e R ⟨rfl,rfl⟩;go_wp2_with fail
  refine d.out.mono ?_;intro e S s;rw [EO] at s;obtain ⟨rfl,a⟩:=s;have t:=rB (ae a q.out);obtain ⟨o,I,J,K,L,M,N,O,P⟩:=t;have k:=Lib.hid o;have j:=Lib.hid (f.out.trans (a.mono f.out.size));clear o a d c;go_wp2_with fail
  obtain ⟨B,C,D,E,F⟩:=ia (x:= .int .i64 1) (y:= .string ⟨#[]⟩) (z:= .int .i64 0) (u:= .string ⟨#[]⟩) k.out;refine bodyPost_ret (v:= .agg #[.int .i64 1,.string ⟨#[]⟩,.int .i64 0,.string ⟨#[]⟩]) (by simp [results,Tryz.results154,go_sem,B,C,D,E]) rfl ?_;exact ⟨by rw [i.out];rfl,j.out.trans (F.below (Nat.le_refl _))⟩
 | some l=>
  rw [g] at c n;simp only [xz] at c;have Q:=mQ g A;have U:=aG l;have d:=Lib.hid (rR (bs l) r (by omega));rw [aI] at d
  cases h:kv l with
  | none=>
   rw [h] at d;have i:Hid (ry arg=iI):=Lib.hid (by rw [n.out];simp only [];rw [h]);clear g n A Q h;go_enter Tryz.func154,Tryz.ntmps154;go_wp2_with fail
   rw [p.out];refine c.out.mono ?_;rintro e R ⟨rfl,rfl⟩;go_wp2_with fail
   refine d.out.mono ?_;intro e S s;obtain ⟨rfl,a⟩:=s;have t:=rB (ae a q.out);obtain ⟨o,I,J,K,L,M,N,O,P⟩:=t;have k:=Lib.hid o;have j:=Lib.hid (f.out.trans (a.mono f.out.size));clear o a d c;go_wp2_with fail
   obtain ⟨B,C,D,E,F⟩:=ia (x:= .int .i64 1) (y:= .string ⟨#[]⟩) (z:= .int .i64 0) (u:= .string ⟨#[]⟩) k.out;refine bodyPost_ret (v:= .agg #[.int .i64 1,.string ⟨#[]⟩,.int .i64 0,.string ⟨#[]⟩]) (by simp [results,Tryz.results154,go_sem,B,C,D,E]) rfl ?_;exact ⟨by rw [i.out];rfl,j.out.trans (F.below (Nat.le_refl _))⟩
  | some b=>
   rw [h] at d;have i:Hid (ry arg=⟨8,[],0,b⟩):=Lib.hid (by rw [n.out];simp only [];rw [h]);clear g n A Q h;go_enter Tryz.func154,Tryz.ntmps154;go_wp2_with fail
   rw [p.out];refine c.out.mono ?_;rintro e R ⟨rfl,rfl⟩;go_wp2_with fail
   refine d.out.mono ?_;intro e S s;obtain ⟨rfl,a⟩:=s;have t:=rB (ae a q.out);obtain ⟨o,I,J,K,L,M,N,O,P⟩:=t;have k:=Lib.hid o;have j:=Lib.hid (f.out.trans (a.mono f.out.size));clear o a d c;go_wp2_with fail
   obtain ⟨B,C,D,E,F⟩:=ia (x:= .int .i64 8) (y:= .string ⟨#[]⟩) (z:= .int .i64 0) (u:= .string ⟨b.toArray⟩) k.out;refine bodyPost_ret (v:= .agg #[.int .i64 8,.string ⟨#[]⟩,.int .i64 0,.string ⟨b.toArray⟩]) (by simp [results,Tryz.results154,go_sem,B,C,D,E]) rfl ?_;exact ⟨by rw [i.out];rfl,j.out.trans (F.below (Nat.le_refl _))⟩
def gV (o:Option (List UInt8)):List UInt8:=match o with | some r=>r | none=>[]
def JU (o:Option (List UInt8)):Value:= .tuple #[.string (bs (gV o)),.bool o.isSome]
theorem Aq (o:Option (List UInt8)):xz o=JU o:=by cases o <;> rfl
def vc (arg:List UInt8):og:=
 let o:=fu arg [84,79,58,60]
 if o.isSome && Lib.hasSuffix (gV o) [62] && (jb (Lib.trimSuffix (gV o) [62])).2 then ⟨10,dY (Lib.trimSuffix (gV o) [62]),0,[]⟩ else iI
theorem qw {arg p:List UInt8} (a:fp arg):fp (gV (fu arg p))∧(gV (fu arg p)).length≤arg.length:=by
 cases h:fu arg p with
 | none=>exact ⟨(fun x b=>by cases b),Nat.zero_le _⟩
 | some r=>exact mQ h a
theorem xm (l p:List UInt8):(Lib.trimSuffix l p).length≤l.length:=by
 unfold Lib.trimSuffix
 split
 ·rw [List.length_take];omega
 ·exact Nat.le_refl _
theorem zt (arg:List UInt8) (m:Int) (w:World) (hl:arg.length≤1048576) (M:fp arg) (O:w.cell? ⟨0,0,none⟩=some (.int .i64 m)):
  Calls Tryz.prog 156 #[.string (bs arg)] w fun e V=>e= .returned (jo (vc arg))∧Below w.heap.size w V:=by
 obtain ⟨i,k⟩:∃i:World,w.alloc (.cells #[.int .i64 0,.string ⟨#[]⟩,.int .i64 0,.string ⟨#[]⟩] 179)=i:=⟨_,rfl⟩;have H:Below w.heap.size w i:=by rw [←k];exact (Below.refl _ _).alloc (Nat.le_refl _) _
 have W:i.heap[w.heap.size]? =some (.cells #[.int .i64 0,.string ⟨#[]⟩,.int .i64 0,.string ⟨#[]⟩] 179 (0,0)):=by rw [←k];exact heap_alloc_new w _
 have m0:=(H.cell (aC O)).trans O;have h:=jK arg [84,79,58,60] i hl (by decide) M (by unfold fp;decide);rw [Aq] at h;have F:=qw (p:=[84,79,58,60]) M;have l:Hid (vc arg=if (fu arg [84,79,58,60]).isSome && Lib.hasSuffix (gV (fu arg [84,79,58,60])) [62] && (jb (Lib.trimSuffix (gV (fu arg [84,79,58,60])) [62])).2 then ⟨10,dY (Lib.trimSuffix (gV (fu arg [84,79,58,60])) [62]),0,[]⟩ else iI):=Lib.hid rfl;unfold JU at h;obtain ⟨c,Y⟩:∃b,(fu arg [84,79,58,60]).isSome=b:=⟨_,rfl⟩;obtain ⟨f,K⟩:∃r,gV (fu arg [84,79,58,60])=r:=⟨_,rfl⟩;rw [Y,K] at h l;rw [K] at F;have a0:=aG f;have j:=Tryz.strings_CutSuffix (bs f) ⟨#[62]⟩ i (by omega);rw [aI,show (⟨#[62]⟩:ByteArray).data.toList=[62] from rfl] at j;have G:=xm f [62];obtain ⟨a,Z⟩:∃b,Lib.hasSuffix f [62]=b:=⟨_,rfl⟩;obtain ⟨g,L⟩:∃r,Lib.trimSuffix f [62]=r:=⟨_,rfl⟩;rw [Z,L] at j l;rw [L] at G;have o:=oL g m i (by omega) m0;obtain ⟨s,e5⟩:∃b,(jb g).2=b:=⟨_,rfl⟩;obtain ⟨P,e6⟩:∃r,dY g=r:=⟨_,rfl⟩;rw [e5,e6] at o l;have C:=Lib.hid h;have D:Hid (Calls Tryz.prog 212 #[.string (bs f),.string ⟨#[62]⟩] i fun e V=>e= .returned (.tuple #[.string (bs g),.bool a])∧V=i):=Lib.hid j;have t:=Lib.hid o;have A:=Lib.hid H;have J:=Lib.hid W;have I:=Lib.hid k;clear H W k O m0 h j o Y K Z L e5 e6 F G M;go_enter Tryz.func156,Tryz.ntmps156;go_wp2_with fail
 rw [I.out];refine C.out.mono ?_;rintro e w1 ⟨rfl,rfl⟩;go_wp2_with fail
 refine D.out.mono ?_;rintro e w2 ⟨rfl,rfl⟩;go_wp2_with fail
 refine t.out.mono ?_;rintro e w3 ⟨rfl,q⟩;obtain ⟨X,c0,c1,c2,c3,f0,f1,f2,f3⟩:=rB (ae q J.out);have E:=Lib.hid X;have B:=Lib.hid (A.out.trans (q.mono A.out.size));clear X q t D C
 by_cases d:(c && a && s)=true
 ·have n:Hid (vc arg=⟨10,P,0,[]⟩):=Lib.hid (by rw [l.out,if_pos d]);simp only [Bool.and_eq_true] at d;obtain ⟨⟨rfl,rfl⟩,rfl⟩:=d;clear l;go_wp2_with fail
  obtain ⟨Q,R,S,T,U⟩:=ia (x:= .int .i64 10) (y:= .string (bs P)) (z:= .int .i64 0) (u:= .string ⟨#[]⟩) E.out;refine bodyPost_ret (v:= .agg #[.int .i64 10,.string (bs P),.int .i64 0,.string ⟨#[]⟩]) (by simp [results,Tryz.results156,go_sem,Q,R,S,T]) rfl ?_;exact ⟨by rw [n.out];rfl,B.out.trans (U.below (Nat.le_refl _))⟩
 ·have n:Hid (vc arg=iI):=Lib.hid (by rw [l.out,if_neg d])
  have N:c=false∨(c=true∧a=false)∨(c=true∧a=true∧s=false):=by
   cases c <;> cases a <;> cases s <;> simp at d ⊢
  clear l d
  rcases N with rfl | ⟨rfl,rfl⟩ | ⟨rfl,rfl,rfl⟩
  all_goals
   go_wp2_with fail
   obtain ⟨Q,R,S,T,U⟩:=ia (x:= .int .i64 1) (y:= .string ⟨#[]⟩) (z:= .int .i64 0) (u:= .string ⟨#[]⟩) E.out;refine bodyPost_ret (v:= .agg #[.int .i64 1,.string ⟨#[]⟩,.int .i64 0,.string ⟨#[]⟩]) (by simp [results,Tryz.results156,go_sem,Q,R,S,T]) rfl ?_;exact ⟨by rw [n.out];rfl,B.out.trans (U.below (Nat.le_refl _))⟩
theorem Ix (o:Option Nat):Iw o= .tuple #[.int .i64 ((o.getD 0:Nat):Int),.bool o.isSome]:=by cases o <;> rfl
def uJ (arg:List UInt8):og:=
 let o:=fu arg [70,82,79,77,58,60]
 let x:=cz 62 (gV o)
 if o.isSome && x.2.2 && ((jb x.1).2 || x.1.isEmpty) && (kT x.2.1).isSome then ⟨9,dY x.1,(kT x.2.1).getD 0,[]⟩ else iI
theorem ub (c:UInt8) (l x y:List UInt8) (f:Bool) (h:cz c l=(x,y,f)):(∀a∈x,a∈l)∧∀a∈y,a∈l:=by
 cases d:(cz c l).2.2 with
 | true=>
  have:=(lL c l d).1;rw [h] at this;simp only at this;rw [this];exact ⟨fun a b=>List.mem_append_left _ b,fun a b=>List.mem_append_right _ (List.mem_cons_of_mem _ b)⟩
 | false=>
  have:=(lu c l d).1;rw [h] at this;injection this with e1 e2;injection e2 with e2 _;subst e1 e2;exact ⟨fun a b=>b,fun a b=>by cases b⟩
theorem xf (arg:List UInt8) (m:Int) (w:World) (hl:arg.length≤1048576) (R:fp arg) (hm:w.cell? ⟨0,0,none⟩=some (.int .i64 m)):
  Calls Tryz.prog 155 #[.string (bs arg)] w fun e w'=>e= .returned (jo (uJ arg))∧Below w.heap.size w w':=by
 obtain ⟨j,t⟩:∃j:World,w.alloc (.cells #[.int .i64 0,.string ⟨#[]⟩,.int .i64 0,.string ⟨#[]⟩] 179)=j:=⟨_,rfl⟩;have U:Below w.heap.size w j:=by rw [←t];exact (Below.refl _ _).alloc (Nat.le_refl _) _
 have X0:j.heap[w.heap.size]? =some (.cells #[.int .i64 0,.string ⟨#[]⟩,.int .i64 0,.string ⟨#[]⟩] 179 (0,0)):=by rw [←t];exact heap_alloc_new w _
 have m0:=(U.cell (aC hm)).trans hm;have l:=jK arg [70,82,79,77,58,60] j hl (by decide) R (by unfold fp;decide);rw [Aq] at l;have H:=qw (p:=[70,82,79,77,58,60]) R;have o:Hid (uJ arg=if (fu arg [70,82,79,77,58,60]).isSome && (cz 62 (gV (fu arg [70,82,79,77,58,60]))).2.2 && ((jb (cz 62 (gV (fu arg [70,82,79,77,58,60]))).1).2 || (cz 62 (gV (fu arg [70,82,79,77,58,60]))).1.isEmpty) && (kT (cz 62 (gV (fu arg [70,82,79,77,58,60]))).2.1).isSome then ⟨9,dY (cz 62 (gV (fu arg [70,82,79,77,58,60]))).1,(kT (cz 62 (gV (fu arg [70,82,79,77,58,60]))).2.1).getD 0,[]⟩ else iI):=Lib.hid rfl;unfold JU at l;obtain ⟨c,e1⟩:∃b,(fu arg [70,82,79,77,58,60]).isSome=b:=⟨_,rfl⟩;obtain ⟨B,Z⟩:∃r,gV (fu arg [70,82,79,77,58,60])=r:=⟨_,rfl⟩;rw [e1,Z] at l o;rw [Z] at H;have a2:=aG B;have N:=Lib.hid (jB (bs B) 62 j (by unfold maxLen;omega));have O:=Lib.hid m0;have P:=Lib.hid H;have M:=Lib.hid l;have K:=Lib.hid U;have Y:=Lib.hid X0;have X:=Lib.hid t;clear U X0 t hm m0 l e1 Z H R;go_enter Tryz.func155,Tryz.ntmps155;go_wp2_with fail
 rw [X.out];refine M.out.mono ?_;rintro e w1 ⟨rfl,rfl⟩;go_wp2_with fail
 refine N.out.mono ?_;rintro e w2 ⟨x,y,d,rfl,I,n,rfl⟩;rw [aI] at I;obtain ⟨f,rfl⟩:∃r,x=bs r:=⟨x.data.toList,rfl⟩;obtain ⟨g,rfl⟩:∃r,y=bs r:=⟨y.data.toList,rfl⟩;rw [aI,aI] at I;rw [I] at o;simp only at o;have a0:=sX 62 _ _ _ _ I;have k:=ub 62 _ _ _ _ I;have a1:=P.out.2;have G:=oL f m (j.drewN n) (by omega) (((bA n j j.heap.size).cell (aC O.out)).trans O.out);obtain ⟨i,e5⟩:∃b,(jb f).2=b:=⟨_,rfl⟩;obtain ⟨kp,e6⟩:∃r,dY f=r:=⟨_,rfl⟩;rw [e5,e6] at G o;have s:Hid (∀W:World,Calls Tryz.prog 211 #[.string (bs g)] W fun e w'=>e= .returned (Iw (kT g))∧Below W.heap.size W w'):=Lib.hid (fun W=>zu g W (by omega) (fun a R=>P.out.1 a (k.2 a R)));rw [Ix] at s;obtain ⟨A,e7⟩:∃b,(kT g).isSome=b:=⟨_,rfl⟩;obtain ⟨sz,e8⟩:∃r,(kT g).getD 0=r:=⟨_,rfl⟩;rw [e7,e8] at s o;have J:=Lib.hid G;clear I a0 k a1 G e5 e6 e7 e8 N M;go_wp2_with fail
 refine J.out.mono ?_;rintro e w3 ⟨rfl,S⟩;have C:=Lib.hid S;clear S;go_wp2_with fail
 refine (s.out w3).mono ?_;rintro e w4 ⟨rfl,T⟩;have V:Below j.heap.size j w4:=(bA n j j.heap.size).trans ((C.out.mono (by simp)).trans (T.mono (by have:=C.out.size;simp at this;exact this)));obtain ⟨X1,c0,c1,c2,c3,f0,f1,f2,f3⟩:=rB (ae V Y.out);have Q:=Lib.hid X1;have L:=Lib.hid (K.out.trans (V.mono K.out.size));obtain ⟨F,E⟩:∃b,f.isEmpty=b:=⟨_,rfl⟩
 have q:Hid (F=true ↔ (bs f).toList=[]):=Lib.hid (by
  rw [ByteArray.toList_eq,aI,←E]
  cases f <;> simp)
 rw [E] at o;clear X1 T J s V C E
 by_cases h:(c && d && (i || F) && A)=true
 ·have D:Hid (uJ arg=⟨9,kp,sz,[]⟩):=Lib.hid (by rw [o.out,if_pos h]);simp only [Bool.and_eq_true] at h;obtain ⟨⟨⟨rfl,rfl⟩,h3⟩,rfl⟩:=h;have k:i=true∨(i=false∧F=true):=by cases i <;> cases F <;> simp at h3 ⊢
  clear o h3
  rcases k with rfl | ⟨rfl,rfl⟩
  all_goals
   try (have hE:(bs f).toList=[]:=q.out.1 rfl)
   try (have hE:¬(bs f).toList=[]:=fun e=>Bool.false_ne_true (q.out.2 e))
   go_wp2_with fail
   obtain ⟨r0,r1,r2,r3,rS⟩:=ia (x:= .int .i64 9) (y:= .string (bs kp)) (z:= .int .i64 (sz:Int)) (u:= .string ⟨#[]⟩) Q.out;refine bodyPost_ret (v:= .agg #[.int .i64 9,.string (bs kp),.int .i64 (sz:Int),.string ⟨#[]⟩]) (by simp [results,Tryz.results155,go_sem,r0,r1,r2,r3]) rfl ?_;exact ⟨by rw [D.out];rfl,L.out.trans (rS.below (Nat.le_refl _))⟩
 ·have D:Hid (uJ arg=iI):=Lib.hid (by rw [o.out,if_neg h])
  have k:c=false∨(c=true∧d=false)∨(c=true∧d=true∧i=false∧F=false)∨(c=true∧d=true∧i=true∧A=false)∨(c=true∧d=true∧i=false∧F=true∧A=false):=by
   cases c <;> cases d <;> cases i <;> cases F <;> cases A <;> simp at h ⊢
  clear o h
  rcases k with rfl | ⟨rfl,rfl⟩ | ⟨rfl,rfl,rfl,rfl⟩ | ⟨rfl,rfl,rfl,rfl⟩ | ⟨rfl,rfl,rfl,rfl,rfl⟩
  all_goals
   try (have hE:(bs f).toList=[]:=q.out.1 rfl)
   try (have hE:¬(bs f).toList=[]:=fun e=>Bool.false_ne_true (q.out.2 e))
   go_wp2_with fail
   obtain ⟨r0,r1,r2,r3,rS⟩:=ia (x:= .int .i64 1) (y:= .string ⟨#[]⟩) (z:= .int .i64 0) (u:= .string ⟨#[]⟩) Q.out;refine bodyPost_ret (v:= .agg #[.int .i64 1,.string ⟨#[]⟩,.int .i64 0,.string ⟨#[]⟩]) (by simp [results,Tryz.results155,go_sem,r0,r1,r2,r3]) rfl ?_;exact ⟨by rw [D.out];rfl,L.out.trans (rS.below (Nat.le_refl _))⟩
def JM:List (List UInt8):=[[81,85,73,84],[78,79,79,80],[82,83,69,84],[68,65,84,65],[72,69,76,79],[69,72,76,79],[65,85,84,72],[77,65,73,76],[82,67,80,84]]
def Ed (W:List UInt8) (arg:List UInt8) (has:Bool):og:=
 if W=[81,85,73,84] then la 2 has
 else if W=[78,79,79,80] then la 3 has
 else if W=[82,83,69,84] then la 4 has
 else if W=[68,65,84,65] then la 5 has
 else if W=[72,69,76,79] then mW 6 arg
 else if W=[69,72,76,79] then mW 7 arg
 else if W=[65,85,84,72] then ry arg
 else if W=[77,65,73,76] then uJ arg
 else if W=[82,67,80,84] then vc arg
 else rJ 0
def bn (text:List UInt8) (bad:Bool):og:=if bad then rJ 0 else Ed (Lib.toUpperA (cz 32 text).1) (cz 32 text).2.1 (cz 32 text).2.2
theorem Al (a:List UInt8) (w:World):Calls Tryz.prog 103 #[.agg #[.string (bs a),.bool true]] w fun e l=>e= .returned (jo (bn a true))∧Below w.heap.size w l:=by
 have g:Hid (bn a true=rJ 0):=Lib.hid rfl;go_enter Tryz.func103,Tryz.ntmps103;go_wp2_with fail
 obtain ⟨c,b⟩:∃c:World,w.alloc (.cells #[.string (bs a),.bool true] 138)=c:=⟨_,rfl⟩;have d:c.heap.size=w.heap.size+1:=by rw [←b];simp
 have f:Below w.heap.size w c:=by rw [←b];exact (Below.refl _ _).alloc (Nat.le_refl _) _
 rw [b];have X:=heap_alloc_new c (.cells #[.int .i64 0,.string ⟨#[]⟩,.int .i64 0,.string ⟨#[]⟩] 179);rw [d] at X;obtain ⟨_,h,i,j,k,_⟩:=rB X;refine bodyPost_ret (v:= .agg #[.int .i64 0,.string ⟨#[]⟩,.int .i64 0,.string ⟨#[]⟩]) (by simp [results,Tryz.results103,go_sem,h,i,j,k]) rfl ?_;exact ⟨by rw [g.out];rfl,f.alloc f.size _⟩
theorem yq (a:List UInt8) (w:World) (g:a.length≤1048576) (c:fp a):Calls Tryz.prog 151 #[.string (bs a)] w fun e f=>e= .returned (.string (bs (Lib.toUpperA a)))∧Below w.heap.size w f:=by
 have h:=aG a;exact Tryz.strings_ToUpper_ascii (bs a) w (by omega) (fun j b d=>c b (List.mem_of_getElem? d))
def JO (V arg:List UInt8) (has:Bool) (kx:og):Prop:=bs V=⟨#[81,85,73,84]⟩∧la 2 has=kx∨bs V=⟨#[78,79,79,80]⟩∧la 3 has=kx∨bs V=⟨#[82,83,69,84]⟩∧la 4 has=kx∨bs V=⟨#[68,65,84,65]⟩∧la 5 has=kx∨bs V=⟨#[72,69,76,79]⟩∧mW 6 arg=kx∨bs V=⟨#[69,72,76,79]⟩∧mW 7 arg=kx∨bs V=⟨#[65,85,84,72]⟩∧ry arg=kx∨bs V=⟨#[77,65,73,76]⟩∧uJ arg=kx∨bs V=⟨#[82,67,80,84]⟩∧vc arg=kx
theorem fA (b:List UInt8) (m:Int) (w:World) (hl:b.length≤1048576) (A:fp b) (X:w.cell? ⟨0,0,none⟩=some (.int .i64 m)) {V:List UInt8} {h:og} (hW:Lib.toUpperA (cz 32 b).1=V) (M:JO V (cz 32 b).2.1 (cz 32 b).2.2 h):Calls Tryz.prog 103 #[.agg #[.string (bs b),.bool false]] w fun e w'=>e= .returned (jo h)∧Below w.heap.size w w':=by
 obtain ⟨l,q⟩:∃l:World,w.alloc (.cells #[.string (bs b),.bool false] 138)=l:=⟨_,rfl⟩;have N:Below w.heap.size w l:=by rw [←q];exact (Below.refl _ _).alloc (Nat.le_refl _) _
 have Y:l.heap.size=w.heap.size+1:=by rw [←q];simp
 have L0:l.heap[w.heap.size]? =some (.cells #[.string (bs b),.bool false] 138 (0,0)):=by rw [←q];exact heap_alloc_new w _
 obtain ⟨d,F⟩:∃d:World,l.alloc (.cells #[.int .i64 0,.string ⟨#[]⟩,.int .i64 0,.string ⟨#[]⟩] 179)=d:=⟨_,rfl⟩;have O:Below l.heap.size l d:=by rw [←F];exact (Below.refl _ _).alloc (Nat.le_refl _) _
 have X1:d.heap[w.heap.size+1]? =some (.cells #[.int .i64 0,.string ⟨#[]⟩,.int .i64 0,.string ⟨#[]⟩] 179 (0,0)):=by rw [←F,←Y];exact heap_alloc_new l _
 have U:=ae O L0;have l0:d.cell? ⟨w.heap.size,0,none⟩=some (.string (bs b)):=by rw [Lib.cell_of_heap U];rfl
 have l1:d.cell? ⟨w.heap.size,1,none⟩=some (.bool false):=by rw [Lib.cell_of_heap U];rfl
 have p:Below w.heap.size w d:=N.trans (O.mono N.size);have a0:=aG b;have E:=Lib.hid (jB (bs b) 32 d (by unfold maxLen;omega));have HM:=Lib.hid ((p.cell (aC X)).trans X);have P:=Lib.hid A;have C:=Lib.hid p;have R:=Lib.hid X1;have L:=Lib.hid hW;have K:=Lib.hid M;clear N L0 O X1 U X A p hW M;go_enter Tryz.func103,Tryz.ntmps103;go_wp2_with fail
 refine E.out.mono ?_;rintro e w2 ⟨x,y,o,rfl,B,n,rfl⟩;rw [aI] at B;obtain ⟨I,rfl⟩:∃r,x=bs r:=⟨x.data.toList,rfl⟩;obtain ⟨arg,rfl⟩:∃r,y=bs r:=⟨y.data.toList,rfl⟩;rw [aI,aI] at B;have W:=sX 32 _ _ _ _ B;have t:=ub 32 _ _ _ _ B;have k:=Lib.hid (yq I (d.drewN n) (by omega) (fun a A=>P.out a (t.1 a A)));have c:Hid (fp arg∧arg.length≤1048576):=Lib.hid ⟨fun a A=>P.out a (t.2 a A),by omega⟩
 rw [B] at L K;simp only at L K;have H:=L.out;rw [H] at k;have M:=K.out;clear B W t E P K L H
 rcases M with ⟨f,g⟩ | ⟨f,g⟩ | ⟨f,g⟩ | ⟨f,g⟩ | ⟨f,g⟩ | ⟨f,g⟩ | ⟨f,g⟩ | ⟨f,g⟩ | ⟨f,g⟩
 all_goals
  rw [f] at k;have Z:=Lib.hid g;clear f g;go_wp2_with fail
  refine k.out.mono ?_;rintro e i ⟨rfl,G⟩;have J:Below d.heap.size d i:=(bA n d d.heap.size).trans (G.mono (by simp));have D:=Lib.hid (C.out.trans (J.mono C.out.size));have S:=Lib.hid (ae J R.out);have j:=Lib.hid ((J.cell (aC HM.out)).trans HM.out);clear G J k;go_wp2_with fail
 refine (j9 2 o i).mono ?_
 rotate_left
 refine (j9 3 o i).mono ?_
 rotate_left
 refine (j9 4 o i).mono ?_
 rotate_left
 refine (j9 5 o i).mono ?_
 rotate_left
 refine (oC 6 arg m i c.out.2 j.out).mono ?_
 rotate_left
 refine (oC 7 arg m i c.out.2 j.out).mono ?_
 rotate_left
 refine (zs arg i c.out.2 c.out.1).mono ?_
 rotate_left
 refine (xf arg m i c.out.2 c.out.1 j.out).mono ?_
 rotate_left
 refine (zt arg m i c.out.2 c.out.1 j.out).mono ?_
 rotate_left
 all_goals
  rintro e w4 ⟨rfl,s⟩;rw [Z.out];simp only [jo];obtain ⟨X4,c0,c1,c2,c3,f0,f1,f2,f3⟩:=rB (ae s S.out);have T:=Lib.hid X4;have Q:=Lib.hid (D.out.trans (s.mono D.out.size));clear X4 s Z;go_wp2_with fail
  obtain ⟨r0,r1,r2,r3,rS⟩:=ia (x:= .int .i64 (h.verb:Int)) (y:= .string (bs h.name)) (z:= .int .i64 (h.size:Int)) (u:= .string (bs h.shown)) T.out;refine bodyPost_ret (v:= .agg #[.int .i64 (h.verb:Int),.string (bs h.name),.int .i64 (h.size:Int),.string (bs h.shown)]) (by simp [results,Tryz.results103,go_sem,r0,r1,r2,r3]) rfl ?_;exact ⟨rfl,Q.out.trans (rS.below (Nat.le_succ _))⟩
theorem yL (b:List UInt8) (m:Int) (w:World) (hl:b.length≤1048576) (l:fp b) (K:w.cell? ⟨0,0,none⟩=some (.int .i64 m)) (R:Lib.toUpperA (cz 32 b).1 ∉ JM):Calls Tryz.prog 103 #[.agg #[.string (bs b),.bool false]] w fun e w'=>e= .returned (jo (rJ 0))∧Below w.heap.size w w':=by
 obtain ⟨f,j⟩:∃f:World,w.alloc (.cells #[.string (bs b),.bool false] 138)=f:=⟨_,rfl⟩;have B:Below w.heap.size w f:=by rw [←j];exact (Below.refl _ _).alloc (Nat.le_refl _) _
 have L:f.heap.size=w.heap.size+1:=by rw [←j];simp
 have N:f.heap[w.heap.size]? =some (.cells #[.string (bs b),.bool false] 138 (0,0)):=by rw [←j];exact heap_alloc_new w _
 obtain ⟨c,s⟩:∃c:World,f.alloc (.cells #[.int .i64 0,.string ⟨#[]⟩,.int .i64 0,.string ⟨#[]⟩] 179)=c:=⟨_,rfl⟩;have C:Below f.heap.size f c:=by rw [←s];exact (Below.refl _ _).alloc (Nat.le_refl _) _
 have O:c.heap[w.heap.size+1]? =some (.cells #[.int .i64 0,.string ⟨#[]⟩,.int .i64 0,.string ⟨#[]⟩] 179 (0,0)):=by rw [←s,←L];exact heap_alloc_new f _
 have I:=ae C N;have l0:c.cell? ⟨w.heap.size,0,none⟩=some (.string (bs b)):=by rw [Lib.cell_of_heap I];rfl
 have l1:c.cell? ⟨w.heap.size,1,none⟩=some (.bool false):=by rw [Lib.cell_of_heap I];rfl
 have h:Below w.heap.size w c:=B.trans (C.mono B.size);have W:=aG b;have q:=Lib.hid (jB (bs b) 32 c (by unfold maxLen;omega));have M:=Lib.hid ((h.cell (aC K)).trans K);have D:=Lib.hid l;have p:=Lib.hid h;have F:=Lib.hid O;have d:=Lib.hid R;clear B N C O I K l h R;go_enter Tryz.func103,Tryz.ntmps103;go_wp2_with fail
 refine q.out.mono ?_;rintro e w2 ⟨x,y,V,rfl,o,n,rfl⟩;rw [aI] at o;obtain ⟨g,rfl⟩:∃r,x=bs r:=⟨x.data.toList,rfl⟩;obtain ⟨arg,rfl⟩:∃r,y=bs r:=⟨y.data.toList,rfl⟩;rw [aI,aI] at o;have J:=sX 32 _ _ _ _ o;have k:=ub 32 _ _ _ _ o;have i:=Lib.hid (yq g (c.drewN n) (by omega) (fun a l=>D.out a (k.1 a l)));have S:Hid (fp arg∧arg.length≤1048576):=Lib.hid ⟨fun a l=>D.out a (k.2 a l),by omega⟩
 rw [o] at d;simp only at d;obtain ⟨U,Q⟩:∃U,Lib.toUpperA g=U:=⟨_,rfl⟩;rw [Q] at d i;have n0:((bs U).toList == [81,85,73,84])=false:=by rw [beq_eq_false_iff_ne,ByteArray.toList_eq,aI];exact fun e=>d.out (by rw [e];decide)
 have n1:((bs U).toList == [78,79,79,80])=false:=by rw [beq_eq_false_iff_ne,ByteArray.toList_eq,aI];exact fun e=>d.out (by rw [e];decide)
 have n2:((bs U).toList == [82,83,69,84])=false:=by rw [beq_eq_false_iff_ne,ByteArray.toList_eq,aI];exact fun e=>d.out (by rw [e];decide)
 have n3:((bs U).toList == [68,65,84,65])=false:=by rw [beq_eq_false_iff_ne,ByteArray.toList_eq,aI];exact fun e=>d.out (by rw [e];decide)
 have n4:((bs U).toList == [72,69,76,79])=false:=by rw [beq_eq_false_iff_ne,ByteArray.toList_eq,aI];exact fun e=>d.out (by rw [e];decide)
 have n5:((bs U).toList == [69,72,76,79])=false:=by rw [beq_eq_false_iff_ne,ByteArray.toList_eq,aI];exact fun e=>d.out (by rw [e];decide)
 have n6:((bs U).toList == [65,85,84,72])=false:=by rw [beq_eq_false_iff_ne,ByteArray.toList_eq,aI];exact fun e=>d.out (by rw [e];decide)
 have n7:((bs U).toList == [77,65,73,76])=false:=by rw [beq_eq_false_iff_ne,ByteArray.toList_eq,aI];exact fun e=>d.out (by rw [e];decide)
 have n8:((bs U).toList == [82,67,80,84])=false:=by rw [beq_eq_false_iff_ne,ByteArray.toList_eq,aI];exact fun e=>d.out (by rw [e];decide)
 clear Q;clear o J k q D;go_wp2_with fail
 refine i.out.mono ?_;rintro e w3 ⟨rfl,t⟩;have A:Below c.heap.size c w3:=(bA n c c.heap.size).trans (t.mono (by simp));have E:=Lib.hid (p.out.trans (A.mono p.out.size));have G:=Lib.hid (ae A F.out);have T:=Lib.hid ((A.cell (aC M.out)).trans M.out);clear t A i;obtain ⟨P,c0,c1,c2,c3,f0,f1,f2,f3⟩:=rB G.out;have H:=Lib.hid P;clear P;go_wp2_with fail
 obtain ⟨X,Y,Z,r3,rS⟩:=ia (x:= .int .i64 0) (y:= .string ⟨#[]⟩) (z:= .int .i64 0) (u:= .string ⟨#[]⟩) H.out;refine bodyPost_ret (v:= .agg #[.int .i64 0,.string ⟨#[]⟩,.int .i64 0,.string ⟨#[]⟩]) (by simp [results,Tryz.results103,go_sem,X,Y,Z,r3]) rfl ?_;exact ⟨rfl,E.out.trans (rS.below (Nat.le_succ _))⟩
theorem bh.mono {base e g f:Nat} {q:Nat→Nat} {j:Value} {S:aa} {w:World} (h:bh base w g f q j S) (d:e≤base):bh e w g f q j S:=
 ⟨h.bag,h.map,Nat.le_trans d h.pbb,Nat.le_trans d h.mbb,h.one,fun i k=>by
  obtain ⟨a,v,x,b,c⟩:=h.mail i k
  exact ⟨Nat.le_trans d a,v,x,b,c.mono d⟩⟩
end Go.Proofs.YtofpegbpgkkgkaaGreatDoor
