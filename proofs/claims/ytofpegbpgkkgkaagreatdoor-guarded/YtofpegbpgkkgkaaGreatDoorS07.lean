import Derived.Test.YtofpegbpgkkgkaaGreatDoorS06
namespace Go.Proofs.YtofpegbpgkkgkaaGreatDoor
set_option maxHeartbeats 8000000
set_option maxRecDepth 1000000
open Go.RowKit
def fu (l:List (List UInt8)):List UInt8:=FW++l.flatMap fun t=>[13,10]++t
theorem zK (l:List (List UInt8)) (k:Nat) (h:k < l.length):fu (l.take (k+1))=fu (l.take k)++([13,10]++l[k]):=by
 unfold fu;rw [List.take_succ_eq_append_getElem h,List.flatMap_append];simp
theorem zJ (a:List (List UInt8)) (b:List Nat):fu (b.map fun i=>a.getD i [])=yK a b:=by
 unfold fu yK;rw [List.flatMap_map];rfl
theorem mD (l:List (List UInt8)) (v:Value) (w:World) (h:aZ w v l.length 1 (az l)) (D:l.length≤255) (q:∀t∈l,t.length≤255):
  Calls Tryz.prog 170 #[v] w fun e z=>e= .returned (.string (bs (fu l)))∧w=z:=by
 obtain ⟨a,u,rfl,o⟩:=h.one;have r:=Lib.hid o;have s:=Lib.hid q;clear h o q;go_enter Tryz.func170,Tryz.ntmps170;go_wp2_with fail
 go_loop [3,8] (fun b i=>∃(k:Nat) (B:List UInt8),k≤l.length∧i= .int .i64 k∧b= .string (bs B)∧B.length≤14+257 * k∧Hid (B=fu (l.take k))) (fun _ i=>l.length - (intOf i).toNat)
 case atStart=>exact ⟨0,FW,Nat.zero_le _,rfl,rfl,by decide,Lib.hid (by simp [fu])⟩
 case round=>
  obtain ⟨k,B,C,rfl,rfl,A,f⟩:=hrel;have F:=aI B
  by_cases d:k < l.length
  ·have p:(k:Int) < (l.length:Int):=by omega
   obtain ⟨b,y,rfl,x,c⟩:=r.out k d;rw [dh l k d] at c;have j:=s.out l[k] (List.getElem_mem d);have m:=Lib.hid (zK l k d);obtain ⟨t,n⟩:∃t,l[k]=t:=⟨_,rfl⟩;rw [n] at c j m;have G:=aI t;have E:((⟨#[13,10]⟩:ByteArray)++bs t).size≤257:=by rw [show (⟨#[13,10]⟩:ByteArray)=bs [13,10] from rfl,ca,aI];simp;omega
   clear n;go_wp2_with fail
   refine ⟨⟨k+1,B++([13,10]++t),by omega,by go_num,?_,by simp;omega,Lib.hid (by rw [m.out,←f.out])⟩,by simp [intOf];omega⟩
   rw [show (⟨#[13,10]⟩:ByteArray)=bs [13,10] from rfl,ca,ca]
  ·have g:k=l.length:=by omega
   subst g;rw [List.take_length] at f;go_wp2_with fail
   go_ret;exact ⟨by rw [←f.out];rfl,rfl⟩
end Go.Proofs.YtofpegbpgkkgkaaGreatDoor
