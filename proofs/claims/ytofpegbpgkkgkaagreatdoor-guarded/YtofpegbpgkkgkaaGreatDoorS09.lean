import Derived.Test.YtofpegbpgkkgkaaGreatDoorS08
namespace Go.Proofs.YtofpegbpgkkgkaaGreatDoor
set_option maxHeartbeats 8000000
set_option maxRecDepth 1000000
open Go.RowKit
def iR (b:UInt8) (w:World) (e:Ending) (w':World):Prop:=e= .returned (.tuple #[.int .u32 (((gU b).getD 0:Nat):Int),.bool (gU b).isSome])∧w'=w
theorem iR.some {b:UInt8} {w:World} {e:Ending} {w':World} (k:Nat) (n:Int) (c:(k:Int)=n) (h:gU b=Option.some k) (a:e= .returned (.tuple #[.int .u32 n,.bool true])) (d:w'=w):iR b w e w':=⟨by rw [a,h,←c];rfl,d⟩
theorem iR.none {b:UInt8} {w:World} {e:Ending} {w':World} (h:gU b=Option.none) (a:e= .returned (.tuple #[.int .u32 0,.bool false])) (c:w'=w):iR b w e w':=⟨by rw [a,h];rfl,c⟩
theorem qZ (b:UInt8) (w:World):Calls Tryz.prog 294 #[.int .u8 (b.toNat:Int)] w (iR b w):=by
 have q:(b.toNat:Int) < 256:=by have:=b.toNat_lt;omega
 have t:0≤(b.toNat:Int):=by omega
 by_cases e:65≤(b.toNat:Int)∧(b.toNat:Int)≤90
 ·have a:Hid (gU b=some (b.toNat - 65)):=by
   show _=_;unfold gU;rw [if_pos (by omega)]
  obtain ⟨g,m⟩:=e;go_enter Tryz.func294,Tryz.ntmps294;go_wp2
  go_ret2
  exact iR.some _ _ (by omega) a.out rfl rfl
 by_cases f:97≤(b.toNat:Int)∧(b.toNat:Int)≤122
 ·have a:Hid (gU b=some (b.toNat - 97+26)):=by
   show _=_;unfold gU;rw [if_neg (by omega),if_pos (by omega)]
  obtain ⟨g,m⟩:=f;clear e;have p:90 < (b.toNat:Int):=by omega
  go_enter Tryz.func294,Tryz.ntmps294;go_wp2
  go_ret2
  exact iR.some _ _ (by omega) a.out rfl rfl
 by_cases h:48≤(b.toNat:Int)∧(b.toNat:Int)≤57
 ·have a:Hid (gU b=some (b.toNat - 48+52)):=by
   show _=_;unfold gU;rw [if_neg (by omega),if_neg (by omega),if_pos (by omega)]
  obtain ⟨g,m⟩:=h;clear e f;have p:(b.toNat:Int) < 65:=by omega
  go_enter Tryz.func294,Tryz.ntmps294;go_wp2
  go_ret2
  exact iR.some _ _ (by omega) a.out rfl rfl
 have i:(decide (65≤(b.toNat:Int)) && decide ((b.toNat:Int)≤90))=false:=by simp;omega
 have j:(decide (97≤(b.toNat:Int)) && decide ((b.toNat:Int)≤122))=false:=by simp;omega
 have k:(decide (48≤(b.toNat:Int)) && decide ((b.toNat:Int)≤57))=false:=by simp;omega
 cases n:((b.toNat:Int) == 43) with
 | true=>
  have c:(b.toNat:Int)=43:=by simpa using n
  have a:Hid (gU b=some 62):=by
   show _=_;unfold gU;rw [if_neg (by omega),if_neg (by omega),if_neg (by omega),if_pos (by omega)]
  clear e f h i j k;have g:(b.toNat:Int) < 48:=by omega
  clear c;go_enter Tryz.func294,Tryz.ntmps294;go_wp2
  all_goals (go_ret2;exact iR.some _ _ rfl a.out rfl rfl)
 | false=>
  cases o:((b.toNat:Int) == 47) with
  | true=>
   have d:(b.toNat:Int)=47:=by simpa using o
   have a:Hid (gU b=some 63):=by
    show _=_;unfold gU;rw [if_neg (by omega),if_neg (by omega),if_neg (by omega),if_neg (by omega),if_pos (by omega)]
   clear e f h i j k;have g:(b.toNat:Int) < 48:=by omega
   clear d;go_enter Tryz.func294,Tryz.ntmps294;go_wp2
   all_goals (go_ret2;exact iR.some _ _ rfl a.out rfl rfl)
  | false=>
   have c:¬(b.toNat:Int)=43:=by simpa using n
   have d:¬(b.toNat:Int)=47:=by simpa using o
   have a:Hid (gU b=none):=by
    show _=_;unfold gU;rw [if_neg (by omega),if_neg (by omega),if_neg (by omega),if_neg (by omega),if_neg (by omega)]
   have r:(b.toNat:Int) < 48∨(57 < (b.toNat:Int)∧(b.toNat:Int) < 65)∨(90 < (b.toNat:Int)∧(b.toNat:Int) < 97)∨122 < (b.toNat:Int):=by omega
   clear e f h c d i j k
   rcases r with l | ⟨l,s⟩ | ⟨l,s⟩ | l
   all_goals
    go_enter Tryz.func294,Tryz.ntmps294;go_wp2
    go_ret2
    exact iR.none a.out rfl rfl
def stood (l:List UInt8):Nat:=if Lib.hasSuffix l [61,61] then 1 else if Lib.hasSuffix l [61] then 2 else 3
theorem gd (s:ByteArray) (w:World) (f:s.size≤maxLen):
  Calls Tryz.prog 275 #[.string s] w fun e b=>e= .returned (.int .i64 (stood s.data.toList:Nat))∧b=w:=by
 have c:Hid (∀n:Nat,stood s.data.toList=n→∀i:Int,(n:Int)=i→Ending.returned (.int .i64 i)= .returned (.int .i64 (stood s.data.toList:Nat))):=fun n h i j=>by rw [h,j]
 cases d:Lib.hasSuffix s.data.toList [61,61] with
 | true=>
  have a:Hid (stood s.data.toList=1):=by show _=_;unfold stood;rw [d];rfl
  go_enter Tryz.func275,Tryz.ntmps275;go_wp2_with (go_at_call 214;refine (Tryz.strings_HasSuffix _ _ _ f).mono ?_;rintro e b ⟨rfl,rfl⟩)
  go_ret;exact ⟨c.out _ a.out _ rfl,rfl⟩
 | false=>
  cases g:Lib.hasSuffix s.data.toList [61] with
  | true=>
   have a:Hid (stood s.data.toList=2):=by show _=_;unfold stood;rw [d,g];rfl
   go_enter Tryz.func275,Tryz.ntmps275;go_wp2_with (go_at_call 214;refine (Tryz.strings_HasSuffix _ _ _ f).mono ?_;rintro e b ⟨rfl,rfl⟩)
   go_ret;exact ⟨c.out _ a.out _ rfl,rfl⟩
  | false=>
   have a:Hid (stood s.data.toList=3):=by show _=_;unfold stood;rw [d,g];rfl
   go_enter Tryz.func275,Tryz.ntmps275;go_wp2_with (go_at_call 214;refine (Tryz.strings_HasSuffix _ _ _ f).mono ?_;rintro e b ⟨rfl,rfl⟩)
   go_ret;exact ⟨c.out _ a.out _ rfl,rfl⟩
end Go.Proofs.YtofpegbpgkkgkaaGreatDoor
