import Derived.Test.YtofpegbpgkkgkaaGreatDoorS02
import Derived.Test.YtofpegbpgkkgkaaGreatDoorS04
namespace Go.Proofs.YtofpegbpgkkgkaaGreatDoor
set_option maxHeartbeats 8000000
set_option maxRecDepth 1000000
open Go.RowKit
theorem me (s:ByteArray) (k:Nat) (h:k < s.size):s.data.toList[k]? =some s[k]:=by
 rw [List.getElem?_eq_getElem (by simpa using h)];rfl
theorem wT {a b:UInt8} {c:Int} (d:(b.toNat:Int)=c) (h:((a.toNat:Int) == c)=false):a≠b:=by
 intro e;subst e;rw [d] at h;simp at h
theorem wS {a b:UInt8} {c:Int} (d:(b.toNat:Int)=c) (h:((a.toNat:Int) == c)=true):a=b:=by
 have h:(a.toNat:Int)=c:=by simpa using h
 rw [←d] at h;exact UInt8.toNat_inj.1 (by omega)
def kM (b:UInt8) (l:List UInt8) (w:World) (e:Ending) (w':World):Prop:=
 ∃(x y:ByteArray) (f:Bool),e= .returned (.tuple #[.string x,.string y,.bool f])∧bS b l=(x.data.toList,y.data.toList,f)∧∃n,w'=w.drewN n
theorem kM.mk {b:UInt8} {l:List UInt8} {w:World} {e:Ending} {a:World} (x y:ByteArray) (f:Bool) (d:e= .returned (.tuple #[.string x,.string y,.bool f])) (c:bS b l=(x.data.toList,y.data.toList,f)) (n:Nat) (g:a=w.drewN n):kM b l w e a:=
 ⟨x,y,f,d,c,n,g⟩
def CA (l:List UInt8) (w:World) (e:Ending) (w':World):Prop:=e= .returned (.bool (yX l))∧∃n,w'=w.drewN n
theorem CA.mk {l:List UInt8} {w:World} {e:Ending} {a:World} (b:Bool) (d:e= .returned (.bool b)) (c:yX l=b) (n:Nat) (f:a=w.drewN n):CA l w e a:=⟨by rw [d,c],n,f⟩
theorem aG (s:ByteArray):s.data.toList.length=s.size:=by simp
theorem kg (s:ByteArray) (k:Nat) (h:k < s.size):s.data.toList.getD k 0=s[k]:=by
 rw [List.getD_eq_getElem?_getD,me s k h];rfl
theorem jl (m:ByteArray) (c:UInt8) (w:World):
  Calls Tryz.prog 216 #[.string m,.int .u8 (c.toNat:Int)] w fun e a=>e= .returned (.int .i64 (Lib.indexByte m.data.toList c))∧a=w:=by
 have:=Tryz.strings_IndexByte m (c.toNat:Int) w
 rwa [Int.toNat_natCast,show c.toNat.toUInt8=c from UInt8.ofNat_toNat] at this
def pd (m:List UInt8) (c:UInt8):Bool:=ET c || !decide (Lib.indexByte m c < 0)
theorem oV (s m:ByteArray) (w:World) (n:s.size≤maxLen):
  Calls Tryz.prog 215 #[.string s,.string m] w fun e a=>e= .returned (.bool (vV s.data.toList m.data.toList))∧a=w:=by
 unfold maxLen at n;go_enter Tryz.func215,Tryz.ntmps215;go_wp2
 go_loop [8] (fun i=>∃k:Nat,k≤s.size∧i= .int .i64 k∧Hid (∀j:Nat,j < k→pd m.data.toList (s.data.toList.getD j 0)=true)) (fun i=>s.size - (intOf i).toNat)
 case atStart=>exact ⟨0,Nat.zero_le _,rfl,fun j l=>by omega⟩
 case round=>
  obtain ⟨k,o,rfl,d⟩:=hrel
  by_cases c:k < s.size
  ·have g:Hid (s.data.toList.getD k 0=s[k]):=kg s k c
   cases f:(DP ↑s[k].toNat || gW ↑s[k].toNat) with
   | true=>
    have b:Hid (pd m.data.toList s[k]=true):=by
     show _=_;simp only [pd,ET,f,Bool.true_or]
    go_wp2_with (go_at_call 255;refine (hU _ _).mono ?_;rintro e a ⟨rfl,rfl⟩)
    exact ⟨⟨k+1,by omega,by go_num,pk d.out g.out b.out⟩,by simp [intOf];omega⟩
   | false=>
    cases h:decide (Lib.indexByte m.data.toList s[k] < 0) with
    | true=>
     have b:Hid (pd m.data.toList s[k]=false):=by
      show _=_;simp only [pd,ET,f,h];rfl
     go_wp2_with (first | (go_at_call 255;refine (hU _ _).mono ?_;rintro e a ⟨rfl,rfl⟩) | (go_at_call 216;refine (jl _ _ _).mono ?_;rintro e a ⟨rfl,rfl⟩))
     go_ret;exact ⟨cA (pH (p:=pd m.data.toList) (by rw [aG];exact c) (by rw [g.out,b.out])).symm,rfl⟩
    | false=>
     have b:Hid (pd m.data.toList s[k]=true):=by
      show _=_;simp only [pd,ET,f,h];rfl
     go_wp2_with (first | (go_at_call 255;refine (hU _ _).mono ?_;rintro e a ⟨rfl,rfl⟩) | (go_at_call 216;refine (jl _ _ _).mono ?_;rintro e a ⟨rfl,rfl⟩))
     exact ⟨⟨k+1,by omega,by go_num,pk d.out g.out b.out⟩,by simp [intOf];omega⟩
  ·go_wp2
   go_ret;exact ⟨cA (wI (p:=pd m.data.toList) (fun j l=>d.out j (by rw [aG] at l;omega))).symm,rfl⟩
theorem qv (s:ByteArray) (w:World) (k:s.size≤maxLen):
  Calls Tryz.prog 158 #[.string s] w fun e a=>e= .returned (.bool (o8 s.data.toList))∧a=w:=by
 have g:=k;unfold maxLen at k;have d:Hid (∀b,o8 s.data.toList=b→Ending.returned (.bool b)= .returned (.bool (o8 s.data.toList))):=fun b h=>by rw [h]
 by_cases c:1≤s.size∧s.size≤20
 ·have m:decide ((s.size:Int) < 1)=false:=by simp;omega
  have n:decide (20 < (s.size:Int))=false:=by simp;omega
  have f:Hid (o8 s.data.toList=(!Lib.hasPrefix s.data.toList [45] && !Lib.hasSuffix s.data.toList [45] && vV s.data.toList [45])):=by
   show _=_;simp only [o8,aG,decide_eq_true c.1,decide_eq_true c.2,Bool.true_and]
  clear c
  cases i:Lib.hasPrefix s.data.toList [45] with
  | true=>
   go_enter Tryz.func158,Tryz.ntmps158;go_wp2_with (go_at_call 178;refine (Tryz.strings_HasPrefix _ _ _).mono ?_;rintro e a ⟨rfl,rfl⟩)
   go_ret;exact ⟨d.out _ (by rw [f.out,i];rfl),rfl⟩
  | false=>
   cases j:Lib.hasSuffix s.data.toList [45] with
   | true=>
    go_enter Tryz.func158,Tryz.ntmps158;go_wp2_with (first | (go_at_call 178;refine (Tryz.strings_HasPrefix _ _ _).mono ?_;rintro e a ⟨rfl,rfl⟩) | (go_at_call 214;refine (Tryz.strings_HasSuffix _ _ _ g).mono ?_;rintro e a ⟨rfl,rfl⟩))
    go_ret;exact ⟨d.out _ (by rw [f.out,i,j];rfl),rfl⟩
   | false=>
    go_enter Tryz.func158,Tryz.ntmps158;go_wp2_with (first | (go_at_call 178;refine (Tryz.strings_HasPrefix _ _ _).mono ?_;rintro e a ⟨rfl,rfl⟩) | (go_at_call 214;refine (Tryz.strings_HasSuffix _ _ _ g).mono ?_;rintro e a ⟨rfl,rfl⟩) | (go_at_call 215;refine (oV _ _ _ g).mono ?_;rintro e a ⟨rfl,rfl⟩))
    go_ret;exact ⟨d.out _ (by rw [f.out,i,j];rfl),rfl⟩
 ·have l:Hid (o8 s.data.toList=false):=by
   rw [CQ];exact FE (by rw [aG];exact c)
  have o:(decide ((s.size:Int) < 1) || decide (20 < (s.size:Int)))=true:=by simp;omega
  clear c;go_enter Tryz.func158,Tryz.ntmps158;go_wp2_with fail
  all_goals (go_ret;exact ⟨d.out _ l.out,rfl⟩)
theorem mi (s:ByteArray) (m:Int) (w:World) (o:s.size≤maxLen) (n:w.cell? ⟨0,0,none⟩=some (.int .i64 m)):
  Calls Tryz.prog 176 #[.string s] w fun e a=>e= .returned (.bool (pa s.data.toList))∧a=w:=by
 have i:=o;unfold maxLen at o;have c:Hid (∀b,pa s.data.toList=b→Ending.returned (.bool b)= .returned (.bool (pa s.data.toList))):=fun b h=>by rw [h]
 by_cases f:1≤s.size∧s.size≤20
 ·have q:decide ((s.size:Int) < 1)=false:=by simp;omega
  have r:decide (20 < (s.size:Int))=false:=by simp;omega
  have d:s.size < 4294967281:=by omega
  have g:Hid (pa s.data.toList=(!Lib.hasPrefix s.data.toList [46] && !Lib.hasSuffix s.data.toList [46] && !Lib.contains s.data.toList [46,46] && vV s.data.toList [45,95,43,46])):=by
   show _=_;simp only [pa,aG,decide_eq_true f.1,decide_eq_true f.2,Bool.true_and]
  clear f
  cases j:Lib.hasPrefix s.data.toList [46] with
  | true=>
   go_enter Tryz.func176,Tryz.ntmps176;go_wp2_with (go_at_call 178;refine (Tryz.strings_HasPrefix _ _ _).mono ?_;rintro e a ⟨rfl,rfl⟩)
   go_ret;exact ⟨c.out _ (by rw [g.out,j];rfl),rfl⟩
  | false=>
   cases k:Lib.hasSuffix s.data.toList [46] with
   | true=>
    go_enter Tryz.func176,Tryz.ntmps176;go_wp2_with (first | (go_at_call 178;refine (Tryz.strings_HasPrefix _ _ _).mono ?_;rintro e a ⟨rfl,rfl⟩) | (go_at_call 214;refine (Tryz.strings_HasSuffix _ _ _ i).mono ?_;rintro e a ⟨rfl,rfl⟩))
    go_ret;exact ⟨c.out _ (by rw [g.out,j,k];rfl),rfl⟩
   | false=>
    cases l:Lib.contains s.data.toList [46,46] with
    | true=>
     go_enter Tryz.func176,Tryz.ntmps176;go_wp2_with (first | (go_at_call 178;refine (Tryz.strings_HasPrefix _ _ _).mono ?_;rintro e a ⟨rfl,rfl⟩) | (go_at_call 214;refine (Tryz.strings_HasSuffix _ _ _ i).mono ?_;rintro e a ⟨rfl,rfl⟩) | (go_at_call 224;refine (Tryz.strings_Contains _ _ m _ d n).mono ?_;rintro e a ⟨rfl,rfl⟩))
     go_ret;exact ⟨c.out _ (by rw [g.out,j,k,l];rfl),rfl⟩
    | false=>
     go_enter Tryz.func176,Tryz.ntmps176;go_wp2_with (first | (go_at_call 178;refine (Tryz.strings_HasPrefix _ _ _).mono ?_;rintro e a ⟨rfl,rfl⟩) | (go_at_call 214;refine (Tryz.strings_HasSuffix _ _ _ i).mono ?_;rintro e a ⟨rfl,rfl⟩) | (go_at_call 224;refine (Tryz.strings_Contains _ _ m _ d n).mono ?_;rintro e a ⟨rfl,rfl⟩) | (go_at_call 215;refine (oV _ _ _ i).mono ?_;rintro e a ⟨rfl,rfl⟩))
     go_ret;exact ⟨c.out _ (by rw [g.out,j,k,l];rfl),rfl⟩
 ·have p:Hid (pa s.data.toList=false):=by
   show _=_
   cases e:pa s.data.toList with
   | false=>rfl
   | true=>
    simp only [pa,Bool.and_eq_true,decide_eq_true_eq,aG] at e;exact absurd ⟨e.1.1.1.1.1,e.1.1.1.1.2⟩ f
  have t:(decide ((s.size:Int) < 1) || decide (20 < (s.size:Int)))=true:=by simp;omega
  clear f;go_enter Tryz.func176,Tryz.ntmps176;go_wp2_with fail
  all_goals (go_ret;exact ⟨c.out _ p.out,rfl⟩)
def CX (l:List UInt8) (w:World) (e:Ending) (w':World):Prop:=
 ∃ps:List ByteArray,e= .returned (.slice (some ⟨w.heap.size,0,none⟩) ps.length ps.length)∧ps.map (·.data.toList)=df 46 l∧ps.length≤41∧(∀p∈ps,p.size≤40)∧Below w.heap.size w w'∧
  ∀k (hk:k < ps.length),w'.cell? ⟨w.heap.size,k,none⟩=some (.string ps[k])
theorem tw (c:UInt8):∀l:List UInt8,(df c l).length≤l.length+1∧∀p∈df c l,p.length≤l.length
 | []=>by simp [df]
 | b::r=>by
  have d:=tw c r
  by_cases f:b=c
  ·simp only [df,f,if_true];refine ⟨by simp;omega,?_⟩
   intro p a
   rcases List.mem_cons.1 a with e | a
   ·subst e;simp
   ·have:=d.2 p a;simp;omega
  ·simp only [df,f,if_false]
   cases g:df c r with
   | nil=>simp
   | cons q qs=>
    rw [g] at d;refine ⟨by simp at d ⊢;omega,?_⟩
    intro p a
    rcases List.mem_cons.1 a with e | a
    ·subst e;have:=d.2 q List.mem_cons_self;simp;omega
    ·have:=d.2 p (List.mem_cons_of_mem _ a);simp;omega
theorem Ev (s:ByteArray) (m:Int) (w:World) (j:s.size≤40) (h:w.cell? ⟨0,0,none⟩=some (.int .i64 m)):
  Calls Tryz.prog 157 #[.string s,.string ⟨#[46]⟩] w (CX s.data.toList w):=by
 refine (Tryz.strings_Split s ⟨#[46]⟩ m w (by omega) h (by decide)).mono ?_;rintro e l ⟨rfl,rfl⟩;have a:=Lib.splitB_all ⟨#[46]⟩ (by decide) 0 _ s rfl;have f:=Lib.splitB_data ⟨#[46]⟩ 0 (Lib.countB s ⟨#[46]⟩) s;have b:(Lib.splitB ⟨#[46]⟩ 0 (Lib.countB s ⟨#[46]⟩) s).map (·.data.toList)=df 46 s.data.toList:=f.trans (Gn s.data.toList);have c:=tw 46 s.data.toList
 generalize Lib.splitB ⟨#[46]⟩ 0 (Lib.countB s ⟨#[46]⟩) s=ps at *
 refine ⟨ps,by rw [a],b,?_,?_,(Below.refl _ _).alloc (Nat.le_refl _) _,?_⟩
 ·have:=congrArg List.length b;rw [List.length_map] at this;have d:=c.1;rw [aG] at d;omega
 ·intro p i;have:=c.2 p.data.toList (by rw [←b];exact List.mem_map_of_mem i);rw [aG,aG] at this;omega
 ·intro k g;have:(w.alloc (.cells (ps.map Value.string).toArray 9)).cell? ⟨w.heap.size,k,none⟩=(ps.map Value.string).toArray[k]? :=World.cell?_alloc_mark _ _ _ _ _;rw [this];simp [List.getElem?_eq_getElem g]
def kC (l:List UInt8) (w:World) (e:Ending) (w':World):Prop:=e= .returned (.bool (iK l))∧Below w.heap.size w w'
theorem kC.mk {l:List UInt8} {w:World} {e:Ending} {a:World} (b:Bool) (d:e= .returned (.bool b)) (c:iK l=b) (f:Below w.heap.size w a):kC l w e a:=⟨by rw [d,c],f⟩
theorem gX (s:ByteArray) (m:Int) (w:World) (H:s.size≤maxLen) (v:w.cell? ⟨0,0,none⟩=some (.int .i64 m)):
  Calls Tryz.prog 104 #[.string s] w (kC s.data.toList w):=by
 unfold maxLen at H
 by_cases A:40 < s.size
 ·go_enter Tryz.func104,Tryz.ntmps104;go_wp2_with fail
  go_ret;exact kC.mk false rfl (by simp [iK];intro h;omega) (Below.refl _ _)
 ·have t:decide (40 < (s.size:Int))=false:=by simp;omega
  have b:s.size≤40:=by omega
  go_enter Tryz.func104,Tryz.ntmps104;go_wp2_with fail
  refine (Ev s m _ b v).mono ?_;rintro e J ⟨a,rfl,x,G,g,r,u⟩
  have o:Hid (iK s.data.toList=(a.map (·.data.toList)).all o8):=by
   show _=_;rw [x,iK,aG,decide_eq_true b,Bool.true_and]
  have z:=Lib.hid g;have y:=Lib.hid u;clear x g u v;go_wp2_with fail
  go_loop [11] (fun i=>∃k:Nat,k≤a.length∧i= .int .i64 k∧Hid (∀j (d:j < a.length),j < k→o8 a[j].data.toList=true)) (fun i=>a.length - (intOf i).toNat)
  case atStart=>exact ⟨0,Nat.zero_le _,rfl,fun j d D=>by omega⟩
  case round=>
   obtain ⟨k,D,rfl,n⟩:=hrel
   by_cases c:k < a.length
   ·have B:J.cell? ⟨w.heap.size,k,none⟩=some (.string a[k]):=y.out k c;have f:a[k].size≤maxLen:=by have:=z.out a[k] (List.getElem_mem c);unfold maxLen;omega
    cases q:o8 a[k].data.toList with
    | true=>
     go_wp2_with (go_at_call 158;refine (qv _ _ f).mono ?_;rintro e I ⟨rfl,rfl⟩)
     exact ⟨⟨k+1,by omega,by go_num,fun j d C=>by
      by_cases e:j < k
      ·exact n.out j d e
      ·have:j=k:=by omega
       subst this;exact q⟩,by simp [intOf];omega⟩
    | false=>
     go_wp2_with (go_at_call 158;refine (qv _ _ f).mono ?_;rintro e I ⟨rfl,rfl⟩)
     go_ret;refine kC.mk false rfl ?_ r;rw [o.out]
     cases e:(a.map (·.data.toList)).all o8 with
     | false=>rfl
     | true=>
      rw [List.all_eq_true] at e;have:=e a[k].data.toList (List.mem_map_of_mem (List.getElem_mem c));rw [q] at this;cases this
   ·go_wp2
    go_ret;refine kC.mk true rfl ?_ r;rw [o.out,List.all_eq_true];intro l E;obtain ⟨p,F,rfl⟩:=List.mem_map.1 E;obtain ⟨j,d,rfl⟩:=List.mem_iff_getElem.1 F;exact n.out j d (by omega)
theorem xW (s:ByteArray) (c:UInt8) (w:World) (l:s.size≤maxLen):
  Calls Tryz.prog 203 #[.string s,.string ⟨#[c]⟩] w (kM c s.data.toList w):=by
 unfold maxLen at l;have a:=E9 c s.data.toList
 by_cases h:0≤Lib.indexByte s.data.toList c
 ·rw [if_pos h] at a;obtain ⟨i,b⟩:=Int.eq_ofNat_of_zero_le h;have j:=(Lib.indexByte_some b).1
  have k:i < s.size:=by
   have:=(List.getElem?_eq_some_iff.1 j).1;rw [aG] at this;exact this
  have f:=Lib.hid b;rw [b,Int.toNat_natCast] at a;have d:=Lib.hid a;clear a b h j;have n:(0:Int)≤↑i:=by omega
  have o:(↑i:Int)≤↑s.size:=by omega
  have p:(0:Int)≤↑i+1:=by omega
  have q:(↑i+1:Int)≤↑s.size:=by omega
  go_enter Tryz.func203,Tryz.ntmps203;go_wp2_with (go_at_call 239;refine (Tryz.stringslite_Index_one _ _ _).mono ?_;rintro e m ⟨rfl,rfl⟩;rw [f.out])
  go_region
  go_wp2
  go_ret3
  refine kM.mk _ _ _ rfl ?_ 1 rfl;rw [d.out,Lib.extract_data,Lib.extract_to_end];rfl
 ·have g:=Lib.indexByte_ge s.data.toList c;have b:Lib.indexByte s.data.toList c= -1:=by omega
  rw [if_neg h] at a;have f:=Lib.hid b;have d:=Lib.hid a;clear a b h g;go_enter Tryz.func203,Tryz.ntmps203;go_wp2_with (go_at_call 239;refine (Tryz.stringslite_Index_one _ _ _).mono ?_;rintro e m ⟨rfl,rfl⟩;rw [f.out])
  go_ret3
  exact kM.mk _ _ _ rfl d.out 0 rfl
theorem ja (s:ByteArray) (c:UInt8) (w:World) (d:s.size≤maxLen):
  Calls Tryz.prog 150 #[.string s,.string ⟨#[c]⟩] w (kM c s.data.toList w):=by
 go_enter Tryz.func150,Tryz.ntmps150;go_wp2_with fail
 refine (xW s c _ d).mono ?_;rintro e g ⟨x,y,f,rfl,a,n,rfl⟩;have b:=Lib.hid a;clear a;go_wp2_with fail
 go_ret3
 exact kM.mk _ _ _ rfl b.out n rfl
theorem gV (s:ByteArray) (w:World) (a:s.size≤140737488355328):
  Calls Tryz.prog 69 #[.string s] w fun e b=>e= .returned (.string s)∧Below w.heap.size w b:=by
 go_enter Tryz.func69,Tryz.ntmps69;go_wp2_with fail
 refine (Tryz.stringslite_Clone s _ (by omega)).mono ?_;rintro e b ⟨rfl,c⟩;go_wp2_with fail
 go_ret;exact ⟨rfl,c⟩
theorem pY (s:ByteArray) (w:World) (f:s.size≤40) (a:∀(j:Nat) (b:UInt8),s.data.toList[j]? =some b→b.toNat < 128):
  Calls Tryz.prog 177 #[.string s] w fun e h=>e= .returned (.string ⟨(Lib.toLowerA s.data.toList).toArray⟩)∧Below w.heap.size w h:=by
 have g:=Lib.hid a;clear a;go_enter Tryz.func177,Tryz.ntmps177;go_wp2_with fail
 refine (Tryz.strings_ToLower_ascii s _ (by omega) g.out).mono ?_;rintro e i ⟨rfl,d⟩;go_wp2_with fail
 refine (gV _ _ ?_).mono ?_
 ·show (Lib.toLowerA s.data.toList).toArray.size≤_;simp [Lib.toLowerA];omega
 rintro e k ⟨rfl,c⟩;go_wp2_with fail
 go_ret;exact ⟨rfl,d.trans (c.mono d.size)⟩
def eh (l:List UInt8):List UInt8×List UInt8×Bool:=
 if pa (bS 64 l).1 && iK (bS 64 l).2.1 then ((bS 64 l).1,Lib.toLowerA (bS 64 l).2.1,true) else ([],[],false)
def js (l:List UInt8) (w:World) (e:Ending) (w':World):Prop:=
 ∃(x y:ByteArray) (f:Bool),e= .returned (.tuple #[.string x,.string y,.bool f])∧eh l=(x.data.toList,y.data.toList,f)∧Below w.heap.size w w'
theorem js.mk {l:List UInt8} {w:World} {e:Ending} {a:World} (x y:ByteArray) (f:Bool) (c:e= .returned (.tuple #[.string x,.string y,.bool f])) (b:eh l=(x.data.toList,y.data.toList,f)) (d:Below w.heap.size w a):js l w e a:=
 ⟨x,y,f,c,b,d⟩
theorem bw (n:Nat) (w:World) (B:Nat):Below B w (w.drewN n):=by
 induction n with
 | zero=>exact Below.refl _ _
 | succ n ih=>exact ih.trans ((Below.refl _ _).drew)
theorem tA (s:ByteArray) (m:Int) (w:World) (B:s.size≤140737488355328) (z:w.cell? ⟨0,0,none⟩=some (.int .i64 m)):
  Calls Tryz.prog 125 #[.string s] w (js s.data.toList w):=by
 have v:s.size≤maxLen:=by unfold maxLen;omega
 go_enter Tryz.func125,Tryz.ntmps125;go_wp2_with fail
 refine (ja s 64 _ v).mono ?_;rintro e q ⟨x,y,f,rfl,p,n,rfl⟩;have r:=rC 64 _ _ _ _ p;rw [aG,aG,aG] at r;have A:x.size≤140737488355328:=by omega
 have C:y.size≤140737488355328:=by omega
 have b:x.size≤maxLen:=by unfold maxLen;omega
 have i:y.size≤maxLen:=by unfold maxLen;omega
 have j:Hid (eh s.data.toList=if pa x.data.toList && iK y.data.toList then (x.data.toList,Lib.toLowerA y.data.toList,true) else ([],[],false)):=by
  show _=_;rw [eh,p]
 clear r p;have a:(w.drewN n).cell? ⟨0,0,none⟩=some (.int .i64 m):=by simpa using z
 cases k:pa x.data.toList with
 | false=>
  go_wp2_with (go_at_call 176;refine (mi _ m _ b a).mono ?_;rintro e q ⟨rfl,rfl⟩)
  go_ret3
  exact js.mk _ _ _ rfl (by rw [j.out,k];rfl) (bw _ _ _)
 | true=>
  cases c:iK y.data.toList with
  | false=>
   go_wp2_with (first | (go_at_call 176;refine (mi _ m _ b a).mono ?_;rintro e q ⟨rfl,rfl⟩) | fail)
   refine (gX y m _ i a).mono ?_;rintro e t ⟨rfl,l⟩;rw [c];go_wp2_with fail
   go_ret3
   exact js.mk _ _ _ rfl (by rw [j.out,k,c];rfl) ((bw _ _ _).trans (by simpa using l))
  | true=>
   have h:y.size≤40:=by have:=Fb _ c;rwa [aG] at this
   have u:=Lib.hid (pK _ c);go_wp2_with (first | (go_at_call 176;refine (mi _ m _ b a).mono ?_;rintro e q ⟨rfl,rfl⟩) | fail)
   refine (gX y m _ i a).mono ?_;rintro e t ⟨rfl,l⟩;rw [c];go_wp2_with fail
   refine (gV x _ A).mono ?_;rintro e D ⟨rfl,g⟩;go_wp2_with fail
   refine (pY y _ h u.out).mono ?_;rintro e E ⟨rfl,o⟩;go_wp2_with fail
   go_ret3
   have d:Below w.heap.size w t:=(bw _ _ _).trans (by simpa using l);exact js.mk _ _ _ rfl (by rw [j.out,k,c];rfl) (d.trans ((g.trans (o.mono g.size)).mono d.size))
def aZ (w:World) (v:Value) (n sz:Nat) (cs:List Value):Prop:=
 cs.length=n * sz∧((n=0∧∃a cap,v= .slice a 0 cap)∨∃b off cap,v= .slice (some ⟨b,off,none⟩) n cap∧n≤cap∧∀j:Nat,j < n * sz→w.cell? ⟨b,off+j,none⟩=cs[j]?)
theorem aA {w:World} {b o:Nat} {v:Value} (h:w.cell? ⟨b,o,none⟩=some v):b < w.heap.size:=by
 rcases Nat.lt_or_ge b w.heap.size with a | a
 ·exact a
 ·simp [World.cell?,Array.getElem?_eq_none a] at h
theorem aZ.below {w k:World} {v:Value} {n i:Nat} {c:List Value} (h:aZ w v n i c) (l:Below w.heap.size w k):aZ k v n i c:=by
 obtain ⟨g,h | ⟨b,a,cap,q,e,m⟩⟩:=h
 ·exact ⟨g,.inl h⟩
 ·refine ⟨g,.inr ⟨b,a,cap,q,e,fun j o=>?_⟩⟩;have d:=m j o;have f:j < c.length:=by omega
  rw [List.getElem?_eq_getElem f] at d ⊢;rw [←d];exact l.cell (p:=⟨b,a+j,none⟩) (aA d)
theorem aZ.shape {w:World} {v:Value} {n d:Nat} {e:List Value} (h:aZ w v n d e):∃a cap,v= .slice a n cap∧∀(k i:Nat),k < n→i < d→∃b c,a=some ⟨b,c,none⟩∧b < w.heap.size∧w.cell? ⟨b,c+(k * d+i),none⟩=e[k * d+i]? :=by
 obtain ⟨o,⟨rfl,a,cap,rfl⟩ | ⟨b,c,cap,rfl,_,g⟩⟩:=h
 ·exact ⟨a,cap,rfl,fun k i l=>by omega⟩
 ·refine ⟨_,cap,rfl,fun k i l m=>?_⟩
  have j:k * d+i < n * d:=by
   have:(k+1) * d≤n * d:=Nat.mul_le_mul_right _ l;rw [Nat.add_mul] at this;omega
  refine ⟨b,c,rfl,?_,g _ j⟩;have f:=g _ j;rw [List.getElem?_eq_getElem (by omega)] at f;exact aA f
theorem aZ.cap {w:World} {a:Option Addr} {n m cap i:Nat} {cs:List Value} (h:aZ w (.slice a n cap) m i cs):m≤cap:=by
 obtain ⟨_,⟨rfl,_⟩ | ⟨b,g,c,f,d,_⟩⟩:=h
 ·exact Nat.zero_le _
 ·injection f with _ _ e;omega
theorem aZ.one {w:World} {v:Value} {n:Nat} {e:List Value} (h:aZ w v n 1 e):∃a c,v= .slice a n c∧∀k:Nat,k < n→∃b d,a=some ⟨b,d,none⟩∧b < w.heap.size∧w.cell? ⟨b,d+k,none⟩=e[k]? :=by
 obtain ⟨a,c,i,f⟩:=h.shape;refine ⟨a,c,i,fun k g=>?_⟩;have:=f k 0 g (by decide);simpa using this
def cd (n a b:Int):Bool:=decide (a≤n) && decide (n≤b)
theorem ly {a b:Bool} (h:b=a):Ending.returned (.bool a)= .returned (.bool b):=by rw [h]
theorem bX (n a b:Int) (w:World):Calls Tryz.prog 108 #[.int .i64 n,.int .i64 a,.int .i64 b] w fun e g=>e= .returned (.bool (cd n a b))∧w=g:=by
 by_cases d:a≤n
 ·by_cases f:n≤b
  ·go_enter Tryz.func108,Tryz.ntmps108;go_wp2
   go_ret;exact ⟨ly (by simp [cd,d,f]),rfl⟩
  ·have c:decide (n≤b)=false:=by simpa using f
   go_enter Tryz.func108,Tryz.ntmps108;go_wp2
   all_goals (go_ret;exact ⟨ly (by rw [cd,c,Bool.and_false]),rfl⟩)
 ·have c:decide (a≤n)=false:=by simpa using d
  go_enter Tryz.func108,Tryz.ntmps108;go_wp2
  all_goals (go_ret;exact ⟨ly (by rw [cd,c];rfl),rfl⟩)
def lP (l:List UInt8):Bool:=cd l.length 1 20 && decide (Lib.indexByte l 0 < 0)
theorem sQ (s:ByteArray) (w:World) (g:s.size≤maxLen):Calls Tryz.prog 160 #[.string s] w fun e a=>e= .returned (.bool (lP s.data.toList))∧w=a:=by
 have d:=g;unfold maxLen at d
 have b:Hid (lP s.data.toList=(cd s.size 1 20 && decide (Lib.indexByte s.data.toList 0 < 0))):=by
  show _=_;rw [lP,aG]
 cases c:cd (s.size:Int) 1 20 with
 | false=>
  go_enter Tryz.func160,Tryz.ntmps160;go_wp2_with (go_at_call 108;refine (bX _ _ _ _).mono ?_;rintro e a ⟨rfl,rfl⟩)
  go_ret;exact ⟨ly (by rw [b.out,c];rfl),rfl⟩
 | true=>
  cases f:decide (Lib.indexByte s.data.toList 0 < 0) with
  | false=>
   go_enter Tryz.func160,Tryz.ntmps160;go_wp2_with (first | (go_at_call 108;refine (bX _ _ _ _).mono ?_;rintro e a ⟨rfl,rfl⟩) | (go_at_call 216;refine (jl s 0 _).mono ?_;rintro e a ⟨rfl,rfl⟩))
   go_ret;exact ⟨ly (by rw [b.out,c,f];rfl),rfl⟩
  | true=>
   go_enter Tryz.func160,Tryz.ntmps160;go_wp2_with (first | (go_at_call 108;refine (bX _ _ _ _).mono ?_;rintro e a ⟨rfl,rfl⟩) | (go_at_call 216;refine (jl s 0 _).mono ?_;rintro e a ⟨rfl,rfl⟩))
   go_ret;exact ⟨ly (by rw [b.out,c,f];rfl),rfl⟩
def j9 (l:List Int):Bool:=cd l.length 1 5 && l.all fun x=>cd x 1 1000000000
def gP (l:List Int):List Value:=l.map (Value.int .i64)
theorem gp (v:Value) (l:List Int) (w:World) (h:aZ w v l.length 1 (gP l)) (B:l.length≤140737488351232):
  Calls Tryz.prog 109 #[v] w fun e g=>e= .returned (.bool (j9 l))∧w=g:=by
 obtain ⟨a,y,rfl,s⟩:=h.one;have p:=Lib.hid s;clear s h
 cases m:cd (l.length:Int) 1 5 with
 | false=>
  go_enter Tryz.func109,Tryz.ntmps109;go_wp2_with (go_at_call 108;refine (bX _ _ _ _).mono ?_;rintro e g ⟨rfl,rfl⟩)
  go_ret;exact ⟨ly (by rw [j9,m];rfl),rfl⟩
 | true=>
  go_enter Tryz.func109,Tryz.ntmps109;go_wp2_with (go_at_call 108;refine (bX _ _ _ _).mono ?_;rintro e g ⟨rfl,rfl⟩)
  go_loop [11] (fun i=>∃k:Nat,k≤l.length∧i= .int .i64 k∧Hid (∀j:Nat,j < k→cd (l.getD j 0) 1 1000000000=true)) (fun i=>l.length - (intOf i).toNat)
  case atStart=>exact ⟨0,Nat.zero_le _,rfl,fun j n=>by omega⟩
  case round=>
   obtain ⟨k,A,rfl,q⟩:=hrel
   by_cases c:k < l.length
   ·obtain ⟨b,o,rfl,z,d⟩:=p.out k c;obtain ⟨x,f⟩:∃x,l.getD k 0=x:=⟨_,rfl⟩
    have t:w.cell? ⟨b,o+k,none⟩=some (.int .i64 x):=by
     rw [d,gP,List.getElem?_map,List.getElem?_eq_getElem c,←f,List.getD_eq_getElem?_getD,List.getElem?_eq_getElem c];rfl
    have r:=Lib.hid f;clear d f p
    cases u:cd x 1 1000000000 with
    | true=>
     go_wp2_with (go_at_call 108;refine (bX _ _ _ _).mono ?_;rintro e g ⟨rfl,rfl⟩)
     refine ⟨⟨k+1,by omega,by go_num,fun j n=>?_⟩,by simp [intOf];omega⟩
     by_cases e:j < k
     ·exact q.out j e
     ·rw [show j=k by omega,r.out,u]
    | false=>
     go_wp2_with (go_at_call 108;refine (bX _ _ _ _).mono ?_;rintro e g ⟨rfl,rfl⟩)
     go_ret;refine ⟨ly ?_,rfl⟩;rw [j9,m,Bool.true_and]
     cases e:l.all (fun x=>cd x 1 1000000000) with
     | false=>rfl
     | true=>
      rw [List.all_eq_true] at e;have:=e x (by rw [←r.out,List.getD_eq_getElem?_getD,List.getElem?_eq_getElem c];exact List.getElem_mem c);rw [u] at this;cases this
   ·go_wp2
    go_ret;refine ⟨ly ?_,rfl⟩;rw [j9,m,Bool.true_and,List.all_eq_true];intro x f;obtain ⟨j,n,rfl⟩:=List.mem_iff_getElem.1 f;have:=q.out j (by omega)
    rwa [List.getD_eq_getElem?_getD,List.getElem?_eq_getElem n] at this
def dC (l:List ByteArray):List Value:=l.map Value.string
def ny (l:List ByteArray):Bool:=decide (l.length≤5) && l.all fun s=>iK s.data.toList
def dR (b:Bool) (w:World) (e:Ending) (w':World):Prop:=e= .returned (.bool b)∧Below w.heap.size w w'
theorem dR.mk {b:Bool} {w:World} {e:Ending} {a:World} (c:Bool) (f:e= .returned (.bool c)) (d:b=c) (g:Below w.heap.size w a):dR b w e a:=⟨by rw [f,d],g⟩
theorem vz {α:Type} {p:α→Bool} {l:List α} {k:Nat} (a:k < l.length) (h:p l[k]=false):l.all p=false:=by
 cases e:l.all p with
 | false=>rfl
 | true=>
  rw [List.all_eq_true] at e;have:=e l[k] (List.getElem_mem a);rw [h] at this;cases this
theorem vA {α:Type} {p:α→Bool} {l:List α} (h:∀(j:Nat) (a:j < l.length),p l[j]=true):l.all p=true:=by
 rw [List.all_eq_true];intro x b;obtain ⟨j,a,rfl⟩:=List.mem_iff_getElem.1 b;exact h j a
theorem CF {α:Type} {p:α→Bool} {l:List α} {k:Nat} (d:k < l.length) (c:∀(j:Nat) (a:j < l.length),j < k→p l[j]=true) (h:p l[k]=true):∀(j:Nat) (a:j < l.length),j < k+1→p l[j]=true:=by
 intro j a b
 by_cases e:j < k
 ·exact c j a e
 ·have:j=k:=by omega
  subst this;exact h
theorem pL (v:Value) (l:List ByteArray) (m:Int) (w:World) (h:aZ w v l.length 1 (dC l)) (O:l.length≤140737488351232) (E:∀s∈l,s.size≤maxLen) (D:w.cell? ⟨0,0,none⟩=some (.int .i64 m)):
  Calls Tryz.prog 105 #[v] w (dR (ny l) w):=by
 obtain ⟨a,G,rfl,B⟩:=h.one;have y:=Lib.hid B;have F:=Lib.hid E;have H:=aA D;clear B h E
 by_cases M:5 < l.length
 ·go_enter Tryz.func105,Tryz.ntmps105;go_wp2
  go_ret;exact dR.mk false rfl (by simp [ny];intro h;omega) (Below.refl _ _)
 ·have I:decide (5 < (l.length:Int))=false:=by simp;omega
  have z:Hid (ny l=l.all fun s=>iK s.data.toList):=by
   show _=_;rw [ny,decide_eq_true (by omega),Bool.true_and]
  go_enter Tryz.func105,Tryz.ntmps105;go_wp2
  go_loopw [10] (fun i K=>∃k:Nat,k≤l.length∧i= .int .i64 k∧Hid (∀(j:Nat) (x:j < l.length),j < k→iK l[j].data.toList=true)∧Below w.heap.size w K) (fun i _=>l.length - (intOf i).toNat)
  case atStart=>exact ⟨0,Nat.zero_le _,rfl,(fun j x J=>by omega),Below.refl _ _⟩
  case round=>
   obtain ⟨k,N,rfl,A,c⟩:=hrel;have g:=Lib.hid c
   by_cases d:k < l.length
   ·obtain ⟨b,r,rfl,u,n⟩:=y.out k d
    have C:wr.cell? ⟨b,r+k,none⟩=some (.string l[k]):=by
     rw [c.cell (p:=⟨b,r+k,none⟩) u,n,dC,List.getElem?_map,List.getElem?_eq_getElem d];rfl
    have o:wr.cell? ⟨0,0,none⟩=some (.int .i64 m):=(c.cell H).trans D;have q:=F.out l[k] (List.getElem_mem d);clear n y c
    cases t:iK l[k].data.toList with
    | true=>
     go_wp2_with fail
     refine (gX _ m _ q o).mono ?_;rintro e L ⟨rfl,f⟩;rw [t];go_wp2_with fail
     exact ⟨⟨k+1,by omega,by go_num,CF (p:=fun s:ByteArray=>iK s.data.toList) d A.out t,g.out.trans (f.mono g.out.size)⟩,by simp [intOf];omega⟩
    | false=>
     go_wp2_with fail
     refine (gX _ m _ q o).mono ?_;rintro e L ⟨rfl,f⟩;rw [t];go_wp2_with fail
     go_ret;exact dR.mk false rfl (by rw [z.out];exact vz (p:=fun s:ByteArray=>iK s.data.toList) d t) (g.out.trans (f.mono g.out.size))
   ·clear c;go_wp2
    go_ret;exact dR.mk true rfl (by rw [z.out];exact vA (p:=fun s:ByteArray=>iK s.data.toList) (fun j x=>A.out j x (by omega))) g.out
def ph (x:Int×Int):Bool:=cd x.2 0 32 && cd x.1 0 4294967295 && decide (x.1 % 2 ^ (32 - x.2).toNat=0)
def gR (l:List (Int×Int)):List Value:=l.flatMap fun x=>[.int .i64 x.1,.int .i64 x.2]
def mw (l:List (Int×Int)):Bool:=decide (l.length≤5) && l.all ph
theorem EV (A n:Nat) (f:A≤4294967295) (b:n≤32):bits .and .u64 (A:Int) ((2:Int) ^ n - 1)=(((A % 2 ^ n:Nat)):Int):=by
 have a:1≤2 ^ n:=Nat.one_le_two_pow;have c:2 ^ n≤2 ^ 32:=Nat.pow_le_pow_right (by decide) b;have d:(2:Nat) ^ 32=4294967296:=by decide
 have e:((2:Int) ^ n - 1)=((2 ^ n - 1:Nat):Int):=by
  rw [Int.natCast_sub a,Int.natCast_pow];rfl
 rw [e,u64_and_nat _ _ (by omega) (by omega),Nat.and_two_pow_sub_one_eq_mod]
theorem FT (a l:Int) (b:0≤a) (g:a≤4294967295):decide (a % 2 ^ (32 - l).toNat=0)=(bits BinOp.and IntKind.u64 a (IntKind.u64.wrap (IntKind.u64.wrap (2 ^ (32 - l).toNat) - 1)) == 0)∨32 < (32 - l).toNat:=by
 obtain ⟨A,rfl⟩:=Int.eq_ofNat_of_zero_le b;obtain ⟨n,c⟩:∃n,(32 - l).toNat=n:=⟨_,rfl⟩;rw [c]
 by_cases h:32 < n
 ·exact Or.inr h
 left
 have i:1≤2 ^ n:=Nat.one_le_two_pow;have j:2 ^ n≤2 ^ 32:=Nat.pow_le_pow_right (by decide) (by omega);have k:(2:Nat) ^ 32=4294967296:=by decide
 have e:((2:Int) ^ n)=((2 ^ n:Nat):Int):=by rw [Int.natCast_pow];rfl
 have d:IntKind.u64.wrap (2 ^ n)=(2:Int) ^ n:=by rw [e,IntKind.wrap_u64];omega
 have f:IntKind.u64.wrap ((2:Int) ^ n - 1)=(2:Int) ^ n - 1:=by rw [e,IntKind.wrap_u64];omega
 rw [d,f,EV A n (by omega) (by omega),e,Bool.eq_iff_iff];simp only [decide_eq_true_eq,beq_iff_eq];omega
theorem FQ (l:List (Int×Int)) (k:Nat) (h:k < l.length):(gR l)[k * 2]? =some (.int .i64 l[k].1):=by
 induction l generalizing k with
 | nil=>simp at h
 | cons x r ih=>
  cases k with
  | zero=>rfl
  | succ k=>
   have:=ih k (by simpa using h);rw [show (k+1) * 2=k * 2+1+1 by omega]
   simpa [gR] using this
theorem CS (l:List (Int×Int)) (k:Nat) (h:k < l.length):(gR l)[k * 2+1]? =some (.int .i64 l[k].2):=by
 induction l generalizing k with
 | nil=>simp at h
 | cons x r ih=>
  cases k with
  | zero=>rfl
  | succ k=>
   have:=ih k (by simpa using h);rw [show (k+1) * 2+1=k * 2+1+1+1 by omega]
   simpa [gR] using this
theorem pj (a l:Int) (w:World):Calls Tryz.prog 159 #[.agg #[.int .i64 a,.int .i64 l]] w (dR (ph (a,l)) w):=by
 cases b:cd l 0 32 with
 | false=>
  go_enter Tryz.func159,Tryz.ntmps159;go_wp2_with (go_at_call 108;refine (bX _ _ _ _).mono ?_;rintro e d ⟨rfl,rfl⟩)
  go_ret;exact dR.mk false rfl (by simp [ph,b]) ((Below.refl _ _).alloc (Nat.le_refl _) _)
 | true=>
  cases c:cd a 0 4294967295 with
  | false=>
   go_enter Tryz.func159,Tryz.ntmps159;go_wp2_with (go_at_call 108;refine (bX _ _ _ _).mono ?_;rintro e d ⟨rfl,rfl⟩)
   go_ret;exact dR.mk false rfl (by simp [ph,c]) ((Below.refl _ _).alloc (Nat.le_refl _) _)
  | true=>
   have h:0≤l:=by simp [cd] at b;omega
   have i:l≤32:=by simp [cd] at b;omega
   have f:0≤a:=by simp [cd] at c;omega
   have g:a≤4294967295:=by simp [cd] at c;omega
   go_enter Tryz.func159,Tryz.ntmps159;go_wp2_with (go_at_call 108;refine (bX _ _ _ _).mono ?_;rintro e d ⟨rfl,rfl⟩)
   go_ret;refine dR.mk _ rfl ?_ ((Below.refl _ _).alloc (Nat.le_refl _) _);rw [ph,b,c,Bool.true_and,Bool.true_and];exact (FT a l f g).resolve_right (by omega)
theorem uO (v:Value) (l:List (Int×Int)) (w:World) (h:aZ w v l.length 2 (gR l)) (Q:l.length≤140737488351232):
  Calls Tryz.prog 106 #[v] w (dR (mw l) w):=by
 obtain ⟨a,I,rfl,H⟩:=h.shape;have z:=Lib.hid H;clear H h
 by_cases O:5 < l.length
 ·go_enter Tryz.func106,Tryz.ntmps106;go_wp2
  go_ret;exact dR.mk false rfl (by simp [mw];intro h;omega) (Below.refl _ _)
 ·have J:decide (5 < (l.length:Int))=false:=by simp;omega
  have D:Hid (mw l=l.all ph):=by
   show _=_;rw [mw,decide_eq_true (by omega),Bool.true_and]
  go_enter Tryz.func106,Tryz.ntmps106;go_wp2
  go_loopw [10] (fun i N=>∃k:Nat,k≤l.length∧i= .int .i64 k∧Hid (∀(j:Nat) (A:j < l.length),j < k→ph l[j]=true)∧Below w.heap.size w N) (fun i _=>l.length - (intOf i).toNat)
  case atStart=>exact ⟨0,Nat.zero_le _,rfl,(fun j A M=>by omega),Below.refl _ _⟩
  case round=>
   obtain ⟨k,P,rfl,E,c⟩:=hrel;have n:=Lib.hid c
   by_cases f:k < l.length
   ·obtain ⟨b,B,rfl,t,q⟩:=z.out k 0 f (by decide);obtain ⟨s,d,G,_,m⟩:=z.out k 1 f (by decide)
    obtain ⟨rfl,rfl⟩:s=b∧d=B:=by
     have:=(Option.some.inj G).symm;simp at this;exact this
    obtain ⟨x,y⟩:∃x,l[k]=x:=⟨_,rfl⟩
    have K:wr.cell? ⟨s,d+k * 2,none⟩=some (.int .i64 x.1):=by
     rw [c.cell (p:=⟨s,d+k * 2,none⟩) t];rw [Nat.add_zero] at q;rw [q,FQ l k f,y]
    have L:wr.cell? ⟨s,d+k * 2+1,none⟩=some (.int .i64 x.2):=by
     rw [c.cell (p:=⟨s,d+k * 2+1,none⟩) t];rw [←Nat.add_assoc] at m;rw [m,CS l k f,y]
    have F:=Lib.hid y;clear q m z c y G
    cases u:ph x with
    | true=>
     have r:ph (x.1,x.2)=true:=u;go_wp2_with fail
     refine (pj _ _ _).mono ?_;rintro e C ⟨rfl,g⟩;rw [r];have o:Hid (Below w.heap.size w C):=(n.out.alloc n.out.size _).trans (g.mono (by have:=n.out.size;simp;omega));clear g;go_wp2_with fail
     exact ⟨⟨k+1,by omega,by go_num,CF (p:=ph) f E.out (by rw [F.out];exact u),o.out⟩,by simp [intOf];omega⟩
    | false=>
     have r:ph (x.1,x.2)=false:=u;go_wp2_with fail
     refine (pj _ _ _).mono ?_;rintro e C ⟨rfl,g⟩;rw [r];have o:Hid (Below w.heap.size w C):=(n.out.alloc n.out.size _).trans (g.mono (by have:=n.out.size;simp;omega));clear g;go_wp2_with fail
     go_ret;exact dR.mk false rfl (by rw [D.out];exact vz (p:=ph) f (by rw [F.out];exact u)) o.out
   ·clear c;go_wp2
    go_ret;exact dR.mk true rfl (by rw [D.out];exact vA (p:=ph) (fun j A=>E.out j A (by omega))) n.out
def cB (l:List (ByteArray×ByteArray)):List Value:=l.flatMap fun x=>[.string x.1,.string x.2]
theorem rM (l:List (ByteArray×ByteArray)) (k:Nat) (h:k < l.length):(cB l)[k * 2]? =some (.string l[k].1):=by
 induction l generalizing k with
 | nil=>simp at h
 | cons x r ih=>
  cases k with
  | zero=>rfl
  | succ k=>
   have:=ih k (by simpa using h);rw [show (k+1) * 2=k * 2+1+1 by omega]
   simpa [cB] using this
theorem pE (l:List (ByteArray×ByteArray)) (k:Nat) (h:k < l.length):(cB l)[k * 2+1]? =some (.string l[k].2):=by
 induction l generalizing k with
 | nil=>simp at h
 | cons x r ih=>
  cases k with
  | zero=>rfl
  | succ k=>
   have:=ih k (by simpa using h);rw [show (k+1) * 2+1=k * 2+1+1+1 by omega]
   simpa [cB] using this
def pU (l:List (ByteArray×ByteArray)) (s:ByteArray):Bool:=l.any fun x=>x.1.toList == s.toList
theorem qt (v:Value) (l:List (ByteArray×ByteArray)) (s:ByteArray) (w:World) (h:aZ w v l.length 2 (cB l)) (M:l.length≤140737488351232):
  Calls Tryz.prog 161 #[v,.string s] w (dR (pU l s) w):=by
 obtain ⟨a,H,rfl,F⟩:=h.shape;have z:=Lib.hid F;clear F h;go_enter Tryz.func161,Tryz.ntmps161;go_wp2
 go_loopw [9] (fun i K=>∃k:Nat,k≤l.length∧i= .int .i64 k∧Hid (∀(j:Nat) (u:j < l.length),j < k→(l[j].1.toList == s.toList)=false)∧Below w.heap.size w K) (fun i _=>l.length - (intOf i).toNat)
 case atStart=>exact ⟨0,Nat.zero_le _,rfl,(fun j u A=>by omega),Below.refl _ _⟩
 case round=>
  obtain ⟨k,L,rfl,C,c⟩:=hrel;have y:=Lib.hid c
  by_cases g:k < l.length
  ·obtain ⟨b,B,rfl,t,m⟩:=z.out k 0 g (by decide);obtain ⟨r,d,E,_,f⟩:=z.out k 1 g (by decide)
   obtain ⟨rfl,rfl⟩:r=b∧d=B:=by
    have:=(Option.some.inj E).symm;simp at this;exact this
   obtain ⟨x,n⟩:∃x,l[k]=x:=⟨_,rfl⟩
   have I:wr.cell? ⟨r,d+k * 2,none⟩=some (.string x.1):=by
    rw [c.cell (p:=⟨r,d+k * 2,none⟩) t];rw [Nat.add_zero] at m;rw [m,rM l k g,n]
   have J:wr.cell? ⟨r,d+k * 2+1,none⟩=some (.string x.2):=by
    rw [c.cell (p:=⟨r,d+k * 2+1,none⟩) t];rw [←Nat.add_assoc] at f;rw [f,pE l k g,n]
   have D:=Lib.hid n;clear m f z c n E;have q:∀o,Hid (Below w.heap.size w (wr.alloc o)):=fun o=>y.out.alloc y.out.size o
   cases G:(x.1.toList == s.toList) with
   | true=>
    go_wp2
    go_ret;refine dR.mk true rfl ?_ (q _).out;rw [pU,List.any_eq_true];exact ⟨l[k],List.getElem_mem g,by rw [D.out];exact G⟩
   | false=>
    go_wp2
    exact ⟨⟨k+1,by omega,by go_num,(fun j u A=>by
     by_cases e:j < k
     ·exact C.out j u e
     ·have:j=k:=by omega
      subst this
      rw [D.out];exact G),(q _).out⟩,by simp [intOf];omega⟩
  ·clear c;go_wp2
   go_ret;refine dR.mk false rfl ?_ y.out;rw [pU,List.any_eq_false];intro x n;obtain ⟨j,u,rfl⟩:=List.mem_iff_getElem.1 n;rw [C.out j u (by omega)];simp
theorem aZ.elem {w:World} {a:Option Addr} {n m d:Nat} {g:List Value} (h:aZ w (.slice a n d) m 1 g) (k:Nat) (j:k < m):∃b c,a=some ⟨b,c,none⟩∧b < w.heap.size∧w.cell? ⟨b,c+k,none⟩=g[k]? :=by
 obtain ⟨l,f,e,i⟩:=h.one;injection e with e1 e2 e3;subst e1;exact i k j
end Go.Proofs.YtofpegbpgkkgkaaGreatDoor
