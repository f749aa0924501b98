import Derived.Test.YtofpegbpgkkgkaaGreatDoorS05
namespace Go.Proofs.YtofpegbpgkkgkaaGreatDoor
set_option maxHeartbeats 8000000
set_option maxRecDepth 1000000
open Go.RowKit
theorem jr (s:ByteArray) (w:World) (c:s.size≤maxLen):Calls Tryz.prog 160 #[.string s] w fun e d=>e= .returned (.bool (lP s.data.toList))∧d=w:=
 (sQ s w c).mono fun _ _ ⟨a,b⟩=>⟨a,b.symm⟩
def lD (l:List (ByteArray×ByteArray)) (k:Nat):Bool:=lP (l.getD k (ByteArray.empty,ByteArray.empty)).1.data.toList && lP (l.getD k (ByteArray.empty,ByteArray.empty)).2.data.toList && !pU (l.take k) (l.getD k (ByteArray.empty,ByteArray.empty)).1
def j7 (l:List (ByteArray×ByteArray)):Bool:=decide (l.length≤5) && (List.range l.length).all (lD l)
theorem Cp (l:List (ByteArray×ByteArray)) (k:Nat) (h:k≤l.length):cB (l.take k)=(cB l).take (k * 2):=by
 induction l generalizing k with
 | nil=>simp [cB]
 | cons x r ih=>
  cases k with
  | zero=>simp [cB]
  | succ k=>
   have:=ih k (by simpa using h);rw [show (k+1) * 2=k * 2+1+1 by omega]
   simp [cB] at this ⊢;exact this
theorem vc (l:List (ByteArray×ByteArray)):(cB l).length=l.length * 2:=by
 induction l with
 | nil=>rfl
 | cons x r ih=>simp [cB] at ih ⊢;omega
theorem Cd {w:World} {b d:Nat} {l:List (ByteArray×ByteArray)} (h:∀j:Nat,j < l.length * 2→w.cell? ⟨b,d+j,none⟩=(cB l)[j]?) (k:Nat) (g:k≤l.length) (a:Nat) (e:k≤a):aZ w (.slice (some ⟨b,d,none⟩) k a) (l.take k).length 2 (cB (l.take k)):=by
 have c:(l.take k).length=k:=by rw [List.length_take,Nat.min_eq_left g]
 refine ⟨vc _,.inr ⟨b,d,a,by rw [c],by rw [c];exact e,fun j f=>?_⟩⟩
 rw [c] at f;rw [h j (by omega),Cp l k g,List.getElem?_take_of_lt f]
theorem uc (v:Value) (l:List (ByteArray×ByteArray)) (w:World) (h:aZ w v l.length 2 (cB l)) (hl:l.length≤140737488351232) (X:∀x∈l,x.1.size≤maxLen∧x.2.size≤maxLen):
  Calls Tryz.prog 107 #[v] w (dR (j7 l) w):=by
 have I:=Lib.hid h;obtain ⟨a,B,rfl,W⟩:=h.shape;have M:=Lib.hid W;have U:=Lib.hid X;clear W h X
 by_cases h5:5 < l.length
 ·go_enter Tryz.func107,Tryz.ntmps107;go_wp2
  go_ret;exact dR.mk false rfl (by simp [j7];intro h;omega) (Below.refl _ _)
 ·have Z:decide (5 < (l.length:Int))=false:=by simp;omega
  have S:Hid (j7 l=(List.range l.length).all (lD l)):=by
   show _=_;rw [j7,decide_eq_true (by omega),Bool.true_and]
  go_enter Tryz.func107,Tryz.ntmps107;go_wp2
  go_loopw [10] (fun i D=>∃k:Nat,k≤l.length∧i= .int .i64 k∧Hid (∀(j:Nat),j < k→lD l j=true)∧Below w.heap.size w D) (fun i _=>l.length - (intOf i).toNat)
  case atStart=>exact ⟨0,Nat.zero_le _,rfl,(fun j a2=>by omega),Below.refl _ _⟩
  case round=>
   obtain ⟨k,hk,rfl,T,d⟩:=hrel;have y:=Lib.hid d
   by_cases f:k < l.length
   ·obtain ⟨b,P,rfl,F,C⟩:=M.out k 0 f (by decide);obtain ⟨E,c,V,_,q⟩:=M.out k 1 f (by decide)
    obtain ⟨rfl,rfl⟩:E=b∧c=P:=by
     have:=(Option.some.inj V).symm;simp at this;exact this
    obtain ⟨x,G⟩:∃x,l[k]=x:=⟨_,rfl⟩
    have a0:wr.cell? ⟨E,c+k * 2,none⟩=some (.string x.1):=by
     rw [d.cell (p:=⟨E,c+k * 2,none⟩) F];rw [Nat.add_zero] at C;rw [C,rM l k f,G]
    have a1:wr.cell? ⟨E,c+k * 2+1,none⟩=some (.string x.2):=by
     rw [d.cell (p:=⟨E,c+k * 2+1,none⟩) F];rw [←Nat.add_assoc] at q;rw [q,pE l k f,G]
    have H:=U.out l[k] (List.getElem_mem f);rw [G] at H;obtain ⟨L,R⟩:=H
    have t:Hid (∀(D:World),Below w.heap.size w D→aZ D (.slice (some ⟨E,c,none⟩) k B) (l.take k).length 2 (cB (l.take k))):=by
     show ∀_,_;intro D N;refine Cd (fun j J=>?_) k hk B (by have:=I.out.cap;omega);obtain ⟨a4,⟨h0,_⟩ | ⟨b2,o2,c2,r,_,O⟩⟩:=I.out.below N
     ·omega
     ·injection r with r;injection r with r;injection r with e1 e2;subst e1 e2;exact O j J
    have s:Hid (lD l k=(lP x.1.data.toList && lP x.2.data.toList && !pU (l.take k) x.1)):=by
     show _=_;have:l.getD k (ByteArray.empty,ByteArray.empty)=x:=by rw [List.getD_eq_getElem?_getD,List.getElem?_eq_getElem f,←G];rfl
     rw [lD,this]
    have m:Hid (lD l k=false→j7 l=false):=by
     show _→_;intro hf;rw [S.out]
     cases e:(List.range l.length).all (lD l) with
     | false=>rfl
     | true=>
      rw [List.all_eq_true] at e;have:=e k (List.mem_range.2 f);rw [hf] at this;cases this
    have a3:(k:Int)≤(B:Int):=by have:=I.out.cap;omega
    have g:∀o,Below w.heap.size w (wr.alloc o).drew:=fun o=>(y.out.alloc y.out.size o).drew;have u:∀o,w.heap.size≤(wr.alloc o).drew.heap.size:=fun o=>(g o).size;clear C q M d G V I U
    cases K:lP x.1.data.toList with
    | false=>
     have A:=Lib.hid (m.out (by rw [s.out,K];rfl));go_wp2_with fail
     go_quiet ((go_at_call 160;exact Calls.quiet_of_same (jr _ _ L)))
     go_wp2_with fail
     go_ret;exact dR.mk false rfl A.out ((y.out.alloc y.out.size _).trans (bw _ _ _))
    | true=>
     cases Q:lP x.2.data.toList with
     | false=>
      have A:=Lib.hid (m.out (by rw [s.out,K,Q];rfl));go_wp2_with fail
      go_quiet ((go_at_call 160;exact Calls.quiet_of_same (jr _ _ (by first | exact L | exact R))))
      go_wp2_with fail
      go_ret;exact dR.mk false rfl A.out ((y.out.alloc y.out.size _).trans (bw _ _ _))
     | true=>
      cases Y:pU (l.take k) x.1 with
      | true=>
       have A:=Lib.hid (m.out (by rw [s.out,K,Q,Y];rfl));go_wp2_with fail
       go_region_with (first
        | (go_at_call 160;refine (jr _ _ ?_).mono ?_;(first | exact L | exact R);rintro e D ⟨rfl,rfl⟩)
        | (go_at_call 161;refine (qt _ (l.take k) _ _ ?_ ?_).mono ?_;(exact t.out _ (g _));(rw [List.length_take];omega);rintro e w1 ⟨rfl,n⟩;have z:=Lib.hid ((g _).trans (n.mono (u _)));clear n))
       all_goals
        go_wp2_with fail
        go_ret;exact dR.mk false rfl A.out z.out
      | false=>
       have A:Hid (lD l k=true):=by show _=_;rw [s.out,K,Q,Y];rfl
       go_wp2_with fail
       go_region_with (first
        | (go_at_call 160;refine (jr _ _ ?_).mono ?_;(first | exact L | exact R);rintro e D ⟨rfl,rfl⟩)
        | (go_at_call 161;refine (qt _ (l.take k) _ _ ?_ ?_).mono ?_;(exact t.out _ (g _));(rw [List.length_take];omega);rintro e w1 ⟨rfl,n⟩;have z:=Lib.hid ((g _).trans (n.mono (u _)));clear n))
       all_goals
        go_wp2_with fail
        refine ⟨⟨k+1,by omega,by go_num,fun j J=>?_,z.out⟩,by simp [intOf];omega⟩
        by_cases e:j < k
        ·exact T.out j e
        ·rw [show j=k by omega,A.out]
   ·clear d;go_wp2
    go_ret;refine dR.mk true rfl ?_ y.out;rw [S.out,List.all_eq_true];intro j J;exact T.out j (by have:=List.mem_range.1 J;omega)
end Go.Proofs.YtofpegbpgkkgkaaGreatDoor
