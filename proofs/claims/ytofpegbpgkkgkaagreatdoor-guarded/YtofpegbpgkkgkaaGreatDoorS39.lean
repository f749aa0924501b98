import Derived.Deep.SlicePairs
import Derived.SizedLaws
import Derived.Test.YtofpegbpgkkgkaaGreatDoorS34
namespace Go.Proofs.YtofpegbpgkkgkaaGreatDoor
set_option maxHeartbeats 8000000
set_option maxRecDepth 1000000
open Go.ChangeShapes Go.WideShapes Go.RowKit Go.Deep
section
variable {H:Type} {enc:TypeId×Value→H} {w:World} {base:Nat} {spare:Nat→Bool} {held:Bool}
theorem Gg:reachBytes=140737488351232:=by decide
theorem Dh:Tryz.prog.cellsOf 3=1:=by kernel_rfl
theorem xV {P:Program} {t e:TypeId} {a c:List (DataW H)} (f:P.underlying t=some (.slice e)) (b:((DataW.slice a c).weights P t).all (·≤reachBytes)=true):a.length * P.bytesOf e≤140737488351232:=by
 simp only [DataW.weights,f,List.all_cons,Bool.and_eq_true,decide_eq_true_eq] at b;have d:=b.1;rw [Gg] at d;have g:a.length * P.bytesOf e≤(a.length+c.length) * P.bytesOf e:=Nat.mul_le_mul_right _ (by omega);omega
theorem IA {a:Addr} {c d h:Nat} {i:List Value} (k:0 < h) (q:i.length=c * h) (f:c≤d) (n:∀j:Nat,j < c * h→w.cell? (a.add j)=i[j]?):aZ w (.slice (some a) c d) c h i:=by
 refine ⟨q,?_⟩
 rcases Nat.eq_zero_or_pos c with rfl | r
 ·exact .inl ⟨rfl,_,_,rfl⟩
 ·obtain ⟨b,l,g⟩:=a;have o:0 < c * h:=Nat.mul_pos r k;have m:=n 0 o;rw [List.getElem?_eq_getElem (by omega)] at m;have e:g=none:=by simpa [Addr.add] using World.cell?_spot m
  subst e;exact .inr ⟨b,l,d,rfl,f,fun j p=>by rw [←add_plain];exact n j p⟩
theorem yY {P:Program} {b:List TypeId} {a:List (DataW H)} (h:(DataW.weightsEach P b a).all (·≤reachBytes)=true) {j:Nat} {t:TypeId} {d:DataW H} (f:b[j]? =some t) (c:a[j]? =some d):(d.weights P t).all (·≤reachBytes)=true:=
 List.all_eq_true.2 fun n e=>List.all_eq_true.1 h n (DataW.weights_mem_each f c n e)
end
def mL (l O:List UInt8):Prop:=
 4≤O.length∧
 ((cP O=tH∧jF l=false)∨(cP O=tG∧bh l lA=true∧jF l=false)∨(cP O=lz∧bh l gK=true∧jF l=false)∨
 (cP O=Hn∧bh l fI=true∧jF l=false)∨(cP O=lz∧bh l gK=false∧bh l fI=false∧jF l=true)∨
 (cP O=lz∧bh l gK=false∧bh l fI=false∧jF l=false)∨(cP O≠tH∧cP O≠tG∧cP O≠lz∧bh l fI=false))
theorem E1 {c:bT} {s:bA} {l:List UInt8} (j:rO l):mL l (bt c s (bn l false)).2.flatten:=by
 have y:=j.quit;have G:=j.over;have n:=j.overs;have m:=j.auth;have z:=j.rcpt;have F:=j.most;obtain ⟨k,D⟩:∃k,bn l false=k:=⟨_,rfl⟩;rw [D] at y G n m z F ⊢;have B:k.verb≠2→bh l fI=false:=fun e=>by rw [y,beq_eq_false_iff_ne];exact e
 have C:k.verb≠10→bh l gK=false:=fun e=>by rw [z,beq_eq_false_iff_ne];exact e
 have x:k.verb≠4→k.verb≠6→k.verb≠7→k.verb≠9→k.verb≠1→jF l=false:=fun a b c d e=>by rw [←Bool.not_eq_true];intro f;have:=n f;omega
 have i:∀O,4≤O.length→cP O≠tH→cP O≠tG→cP O≠lz→k.verb≠2→mL l O:=fun O q r u w E=>⟨q,.inr (.inr (.inr (.inr (.inr (.inr ⟨r,u,w,B E⟩)))))⟩
 have o:∀O,4≤O.length→cP O=lz→k.verb≠2→k.verb≠10→mL l O:=fun O q r u w=>by
  cases h:jF l with
  | true=>exact ⟨q,.inr (.inr (.inr (.inr (.inl ⟨r,C w,B u,h⟩))))⟩
  | false=>exact ⟨q,.inr (.inr (.inr (.inr (.inr (.inl ⟨r,C w,B u,h⟩)))))⟩
 by_cases g:fC s k.verb=false
 ·have e:bt c s k=(s,[mn]):=by unfold bt;rw [if_pos g]
  rw [e];exact i ([mn]:List (List UInt8)).flatten (by decide) (by decide) (by decide) (by decide) (fun e=>by rw [e] at g;cases g)
 have H:k.verb=0∨k.verb=1∨k.verb=2∨k.verb=3∨k.verb=4∨k.verb=5∨k.verb=6∨k.verb=7∨k.verb=8∨k.verb=9∨k.verb=10:=by omega
 unfold bt;rw [if_neg g]
 rcases H with v | v | v | v | v | v | v | v | v | v | v
 ·simp only [v];exact i ([xH]:List (List UInt8)).flatten (by decide) (by decide) (by decide) (by decide) (by omega)
 ·simp only [v];exact i ([FC]:List (List UInt8)).flatten (by decide) (by decide) (by decide) (by decide) (by omega)
 ·simp only [v];exact ⟨by decide,.inr (.inr (.inr (.inl ⟨by decide,by rw [y,v];rfl,x (by omega) (by omega) (by omega) (by omega) (by omega)⟩)))⟩
 ·simp only [v];exact o ([jJ]:List (List UInt8)).flatten (by decide) (by decide) (by omega) (by omega)
 ·simp only [v];exact o ([jJ]:List (List UInt8)).flatten (by decide) (by decide) (by omega) (by omega)
 ·simp only [v]
  cases A:s.tx with
  | none=>
   rw [v] at g;unfold fC at g;rw [A] at g;exact absurd rfl g
  | some t=>exact ⟨by show 4≤([zw]:List (List UInt8)).flatten.length;decide,.inl ⟨by show cP ([zw]:List (List UInt8)).flatten=tH;decide,x (by omega) (by omega) (by omega) (by omega) (by omega)⟩⟩
 ·simp only [v];refine o ([[50,53,48,32]++cL c++[13,10]]:List (List UInt8)).flatten ?_ (by rw [List.flatten_cons,List.append_assoc,List.append_assoc];exact oK _ _ _ _ _) (by omega) (by omega);rw [List.flatten_cons,List.length_append,List.length_append,List.length_append];simp only [List.length_cons,List.length_nil];omega
 ·simp only [v];refine o _ ?_ (by rw [List.flatten_cons,List.append_assoc,List.append_assoc];exact oK _ _ _ _ _) (by omega) (by omega);rw [List.flatten_cons,List.length_append,List.length_append,List.length_append];simp only [List.length_cons,List.length_nil];omega
 ·simp only [v]
  split
  ·exact i ([mn]:List (List UInt8)).flatten (by decide) (by decide) (by decide) (by decide) (by omega)
  ·split
   ·exact ⟨by show 4≤([DN]:List (List UInt8)).flatten.length;decide,.inr (.inl ⟨by show cP ([DN]:List (List UInt8)).flatten=tG;decide,by rw [m,v];rfl,x (by omega) (by omega) (by omega) (by omega) (by omega)⟩)⟩
   ·exact i ([FD]:List (List UInt8)).flatten (by decide) (by decide) (by decide) (by decide) (by omega)
 ·simp only [v]
  split
  ·exact i ([mn]:List (List UInt8)).flatten (by decide) (by decide) (by decide) (by decide) (by omega)
  ·split
   ·exact i ([uG]:List (List UInt8)).flatten (by decide) (by decide) (by decide) (by decide) (by omega)
   ·exact o ([jJ]:List (List UInt8)).flatten (by decide) (by decide) (by omega) (by omega)
 ·simp only [v]
  cases A:s.tx with
  | none=>
   rw [v] at g;unfold fC at g;rw [A] at g;exact absurd rfl g
  | some t=>
   have J:bh l gK=true:=by rw [z,v];rfl
   have I:=x (by omega) (by omega) (by omega) (by omega) (by omega);have p:mL l ([[50,53,48,32,111,107,13,10]]:List (List UInt8)).flatten:=⟨by decide,.inr (.inr (.inl ⟨by decide,J,I⟩))⟩
   show mL l ([cz t.tos c.most (s.nets || s.known || dY c k.name) k.name]:List (List UInt8)).flatten;unfold cz
   split
   ·exact p
   ·split
    ·exact i ([[52,53,50,32,109,97,110,121,13,10]]:List (List UInt8)).flatten (by decide) (by decide) (by decide) (by decide) (by omega)
    ·split
     ·exact p
     ·exact i ([[53,53,48,32,110,111,13,10]]:List (List UInt8)).flatten (by decide) (by decide) (by decide) (by decide) (by omega)
theorem Fc {c:bT} {s:bA} {S:aa} {a:List UInt8} {t:mN} {b:dV}:4≤(lQ c s S a t b).2.2.2.flatten.length:=by
 unfold lQ
 split
 ·show 4≤([xH]:List (List UInt8)).flatten.length;decide
 ·split
  ·show 4≤([uG]:List (List UInt8)).flatten.length;decide
  ·split
   ·rw [List.flatten_cons,List.length_append,List.length_append,List.length_append];simp only [List.length_cons,List.length_nil];omega
   ·show 4≤([G6]:List (List UInt8)).flatten.length;decide
theorem FH {c:bT} {x:bV} {s:bA} {S:aa} {a l:List UInt8} (h:jV x s) (e:x.inside=false):aO c s S a l false=((bt c s (bn l false)).1,S,a,(bt c s (bn l false)).2):=by
 unfold aO
 cases f:s.tx with
 | none=>rfl
 | some t=>
  simp only;have:=h.inside;rw [e] at this;unfold Hy at this;rw [f,show (some t:Option mN).bind (·.body)=t.body from rfl] at this
  cases d:t.body with
  | none=>rfl
  | some b=>rw [d] at this;cases this
theorem vQ {c:bT} {x:bV} {s:bA} {S:aa} {recs l:List UInt8} (h:jV x s) (g:x.inside=true):(l≠[46]→(aO c s S recs l false).2.2.2.flatten=[])∧(l=[46]→4≤(aO c s S recs l false).2.2.2.flatten.length):=by
 obtain ⟨t,d,b,a⟩:∃t,s.tx=some t∧∃b,t.body=some b:=by
  have:=h.inside;rw [g] at this;unfold Hy at this
  cases d:s.tx with
  | none=>rw [d] at this;cases this
  | some t=>
   rw [d,show (some t:Option mN).bind (·.body)=t.body from rfl] at this
   cases a:t.body with
   | none=>rw [a] at this;cases this
   | some b=>exact ⟨t,rfl,b,a⟩
 have f:aO c s S recs l false=dr c s S recs t b l false:=by unfold aO;rw [d];simp only;rw [a]
 rw [f];refine ⟨fun e=>?_,fun e=>?_⟩
 ·unfold dr;rw [if_neg e];rfl
 ·unfold dr;rw [if_pos e];exact Fc
end Go.Proofs.YtofpegbpgkkgkaaGreatDoor
