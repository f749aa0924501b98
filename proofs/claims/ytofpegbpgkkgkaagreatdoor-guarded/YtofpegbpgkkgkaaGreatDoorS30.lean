import Derived.Test.YtofpegbpgkkgkaaGreatDoorS26
import Derived.Test.YtofpegbpgkkgkaaGreatDoorS16
import Derived.Test.YtofpegbpgkkgkaaGreatDoorS29
import Derived.Test.YtofpegbpgkkgkaaGreatDoorS17
namespace Go.Proofs.YtofpegbpgkkgkaaGreatDoor
set_option maxHeartbeats 8000000
set_option maxRecDepth 1000000
open Go.RowKit
theorem o9 {c:Nat} {a:List Nat} (e:c≤4294967295) (d:1≤a.length) (h:a.length≤100) (b:∀x∈a,x≤255) (f:bC a=true):dJ (aY c a)=some (c,a):=by
 unfold dJ;rw [vR (by omega) (by omega) (fun x g=>by have:=b x g;omega)];simp [d,f]
theorem r7 (b z C:Nat) (q:Nat→Nat) (E:Value) (S:aa) (c T:Nat) (a:List Nat) (n:Int) (w:World) (h:bf b w z C q E S) (M:S.Ok) (Z:w.cell? ⟨0,0,none⟩=some (.int .i64 n)) (hn:S.items.length < 4294967295) (u:c≤4294967295) (J:1≤a.length) (N:a.length≤100) (y:∀x∈a,x≤255) (d:bC a=true) (j:bu S c a=true):
  Calls Tryz.prog 75 #[.pointer (some ⟨z,0,none⟩),.string (bs (71::aY c a))] w (fG b z C q E S (S.outs (c - 1) a) T w):=by
 have L:(71::aY c a).length≤1048576:=by
  unfold aY;simp only [List.length_cons,List.length_append,bq,iI];omega
 have s:bL (71::aY c a)=none:=by simp [bL]
 have r:db (71::aY c a)=some (c,a):=by
  show (if (71:UInt8)=71 then dJ (aY c a) else none)=_;rw [if_pos rfl];exact o9 u J N y d
 obtain ⟨l,V⟩:∃l,71::aY c a=l:=⟨_,rfl⟩;rw [V] at L s r ⊢;have R:=Lib.hid h;have HM:=Lib.hid (jM l n w L Z);have H:=Lib.hid s;have t:=Lib.hid r;have f:=Lib.hid j;clear h Z s r V y d j;go_enter Tryz.func75,Tryz.ntmps75;go_wp2_with fail
 refine HM.out.mono ?_;rintro e w1 ⟨p,m⟩;have A1:=Lib.hid (R.out.keep m);have F:=Lib.hid m;clear m
 rcases p with ⟨_,rfl⟩ | ⟨mm,v,d,_⟩
 case inr=>rw [H.out] at d;cases d
 simp only [aV,kv];go_wp2_with fail
 refine (lx l _ L).mono ?_;rintro e P ⟨p,o⟩;have A3:=Lib.hid ((A1.out.keep ((Below.refl _ _).alloc (Nat.le_refl _) _)).keep o);have Q:=Lib.hid ((F.out.alloc F.out.size _).trans (o.mono (Nat.le_trans F.out.size (by simp))));clear o
 rcases p with ⟨d,rfl⟩ | ⟨a1,a2,v,d,rfl,O,_,_,_,_⟩
 ·rw [t.out] at d;cases d
 rw [t.out] at d;obtain ⟨rfl,rfl⟩:=Prod.mk.inj (Option.some.inj d);obtain ⟨av,nv,cv,rfl⟩:=jS O;obtain ⟨B,k⟩:∃B:World,P.alloc (.cells #[.int .i64 c,.slice av nv cv] 193)=B:=⟨_,rfl⟩;have A:Below P.heap.size P B:=by rw [←k];exact (Below.refl _ _).alloc (Nat.le_refl _) _
 have HT:=Lib.hid (tM b z C q E _ S c a B (A3.out.keep A) M (aC (ax O fun g a0 e _=>ae A e)) u J (by omega) (by omega) f.out);have G:=Lib.hid (Q.out.trans (A.mono Q.out.size))
 have U:Hid (∀i∈(S.outs (c - 1) a).live,i∈S.live):=Lib.hid (fun i K=>by
  have hq:=f.out;rw [dv J,Bool.and_eq_true,decide_eq_true_eq] at hq
  exact gE hq.1.2 K)
 have I:=Lib.hid k;clear d A k O;go_wp2_with fail
 rw [I.out];refine HT.out.mono ?_;rintro e w7 ⟨rfl,W,X,Y⟩;have HP:Hid (fG b z C q E S (S.outs (c - 1) a) T w (.returned (.bool true)) w7):=Lib.hid (fG.after R.out G.out ⟨rfl,q,W,X,fun D hd=>(Y.due U.out hd).new (fun i K=>bm (U.out i K))⟩);clear W X Y;go_wp2_with fail
 go_ret;exact HP.out
theorem rZ (f D I:Nat) (q:Nat→Nat) (J:Value) (S F:aa) (d T:Nat) (b:List Nat) (n:Int) (w:World) (h:bf f w D I q J S) (V:S.Ok) (hm:w.cell? ⟨0,0,none⟩=some (.int .i64 n)) (hn:S.items.length < 4294967295) (A:d≤4294967295) (h1:1≤b.length) (W:b.length≤100) (B:∀x∈b,x≤255) (c:bC b=true) (j:bu S d b=true) (hT:T≤1000000000) (U:S.time≤T) (hS:S.takesF T d b=some F):
  Calls Tryz.prog 75 #[.pointer (some ⟨D,0,none⟩),.string (bs (70::(aB 4 T++aY d b)))] w (fG f D I q J S F T w):=by
 have H:(70::(aB 4 T++aY d b)).length≤1048576:=by
  unfold aY;simp only [List.length_cons,List.length_append,bq,iI];omega
 have u:bL (70::(aB 4 T++aY d b))=none:=by simp [bL]
 have t:db (70::(aB 4 T++aY d b))=none:=by simp [db]
 have s:bO (70::(aB 4 T++aY d b))=some (T,d,b):=by
  show (if (70:UInt8)=70 then (fU 4 (aB 4 T++aY d b)).bind fun a=>(dJ a.2).bind fun x=>if a.1≤1000000000 then some (a.1,x.1,x.2) else none else none)=_;rw [if_pos rfl,jv (k:=4) (aY d b) (show T < 256 ^ 4 by omega)];show (dJ (aY d b)).bind _=_;rw [o9 A h1 W B c];show (if T≤1000000000 then some (T,d,b) else none)=_;rw [if_pos hT]
 obtain ⟨l,el⟩:∃l,70::(aB 4 T++aY d b)=l:=⟨_,rfl⟩;rw [el] at H u t s ⊢;have HH:=Lib.hid h;have HM:=Lib.hid (jM l n w H hm);have P:=Lib.hid u;have N:=Lib.hid t;have z:=Lib.hid s;have O:=Lib.hid c;have Q:=Lib.hid hS;have y:=Lib.hid j;clear h hm u t s el B c j hS;go_enter Tryz.func75,Tryz.ntmps75;go_wp2_with fail
 refine HM.out.mono ?_;rintro e w1 ⟨i,o⟩;have A1:=Lib.hid (HH.out.keep o);have K:=Lib.hid o;clear o
 rcases i with ⟨_,rfl⟩ | ⟨mm,v,c,_⟩
 case inr=>rw [P.out] at c;cases c
 simp only [aV,kv];go_wp2_with fail
 refine (lx l _ H).mono ?_;rintro e w3 ⟨i,p⟩;have A3:=Lib.hid ((A1.out.keep ((Below.refl _ _).alloc (Nat.le_refl _) _)).keep p);have L:=Lib.hid ((K.out.alloc K.out.size _).trans (p.mono (Nat.le_trans K.out.size (by simp))));clear p
 rcases i with ⟨_,rfl⟩ | ⟨Y,Z,v,c,_⟩
 case inr=>rw [N.out] at c;cases c
 go_wp2_with fail
 refine (mC l _ H).mono ?_;rintro e w5 ⟨i,r⟩;have A5:=Lib.hid ((A3.out.keep ((Below.refl _ _).alloc (Nat.le_refl _) _)).keep r);have B5:=Lib.hid ((L.out.alloc L.out.size _).trans (r.mono (Nat.le_trans L.out.size (by simp))));clear r
 rcases i with ⟨c,rfl⟩ | ⟨T',Y,Z,v,c,rfl,⟨X,_,_,_,_⟩,_⟩
 ·rw [z.out] at c;cases c
 rw [z.out] at c;obtain ⟨rfl,C⟩:=Prod.mk.inj (Option.some.inj c);obtain ⟨rfl,rfl⟩:=Prod.mk.inj C;obtain ⟨av,nv,cv,rfl⟩:=jS X;obtain ⟨G,m⟩:∃G:World,w5.alloc (.cells #[.int .i64 d,.slice av nv cv] 193)=G:=⟨_,rfl⟩;have E:Below w5.heap.size w5 G:=by rw [←m];exact (Below.refl _ _).alloc (Nat.le_refl _) _
 have HT:=Lib.hid (qa f D I q J _ S F T d b G (A5.out.keep E) V _ (ax X fun g a0 e _=>ae E e) A h1 (by omega) O.out hT hn y.out U Q.out);have M:=Lib.hid (B5.out.trans (E.mono B5.out.size));have R:=Lib.hid m;clear c C E m X;go_wp2_with fail
 rw [R.out];refine HT.out.mono ?_;rintro e w7 ⟨rfl,hP⟩;have HP:Hid (fG f D I q J S F T w (.returned (.bool true)) w7):=Lib.hid (fG.after HH.out M.out ⟨rfl,hP⟩);clear hP;go_wp2_with fail
 go_ret;exact HP.out
theorem fZ.after [Kn] {d c:Nat} {q:Nat→Nat} {f:Value} {S i:aa} {a l:List UInt8} {w m j:World} {e:Ending} (h:eJ w d c q f S a) (b:Below w.heap.size w m) (t:fZ d c q f S i a l m e j):fZ d c q f S i a l w e j:=by
 obtain ⟨n,s,g,o,p,r⟩:=t;have u:=b.size;refine ⟨n,s,g,o,(aF.below b).trans p (fun _ _ e=>e.imp (cI h.inn b) id),fun k e=>(r k e).imp (fun e=>e.imp (cI h.inn b) id) (fun e=>by omega)⟩
theorem F9 [Kn] {S:aa} {K:Nat} {a:List Nat} {T:Nat} (h:Kn.n0≤S.items.length):oz S (S.outs K a) T:=
 oz.of h (by rw [bF];exact Nat.le_refl _) (fun i _=>fH S K a i) (fun i b c=>by have:=bm b;rw [bF] at this;omega)
theorem Dt [Kn] {S l:aa} {T e:Nat} {f:List Nat} (h:Kn.n0≤S.items.length) (c:S.takesF T e f=some l):oz S l T:=by
 unfold aa.takesF at c
 split at c
 ·injection c with c;unfold aa.failed at c
  split at c
  ·subst c;have j:(aa.mk (S.outs (e - 1) f).items T).items.length=S.items.length:=bF S _ f;refine oz.of h (by rw [j];exact Nat.le_refl _) (fun i _=>fH S (e - 1) f i) (fun i g k=>by have:=bm g;rw [j] at this;omega)
  ·subst c;have j:((S.outs (e - 1) f).items++[(⟨⟨(S.outs (e - 1) f).items.length+1,T,[],[(S.mailOf (e - 1)).frm],yK (S.mailOf (e - 1)).tos f⟩,[false]⟩:fE)]).length=S.items.length+1:=by rw [List.length_append,bF];rfl
   refine oz.of h (by show _≤List.length _;rw [j];omega) (fun i g=>?_) (fun i g k=>?_)
   ·have d:i < (S.outs (e - 1) f).items.length:=by rw [bF];exact g
    rw [←fH S (e - 1) f i];unfold aa.mailOf;show ((List.append _ _)[i]?.map _).getD _=_;rw [show ∀a b:List fE,List.append a b=a++b from fun _ _=>rfl,List.getElem?_append_left d]
   ·have d:=bm g;have d:i < S.items.length+1:=by rw [←j];exact d
    obtain rfl:i=S.items.length:=by omega
    unfold aa.mailOf;show aR.time (((List.append _ _)[S.items.length]?.map _).getD _)=_;rw [show ∀a b:List fE,List.append a b=a++b from fun _ _=>rfl,List.getElem?_append_right (by rw [bF];exact Nat.le_refl _),bF,Nat.sub_self];rfl
 ·cases c
theorem yB [Kn] (g u:Nat) (q:Nat→Nat) (v H:Value) (S:aa) (b:List UInt8) (c:Nat) (a:List Nat) (n:Int) (w:World) (h:eJ w g u q v S b) (r:S.Ok) (A:aZ w H a.length 1 (aX a)) (B:b.length≤1073741824) (F:w.cell? ⟨0,0,none⟩=some (.int .i64 n)) (p:0 < w.heap.size) (M:S.items.length < 4294967295) (o:c≤4294967295) (L:1≤a.length) (t:a.length≤100) (f:∀x∈a,x≤255) (G:bC a=true) (d:bu S c a=true):
  Calls Tryz.prog 120 #[.pointer (some ⟨g,0,none⟩),.int .i64 c,H] w fun e C=>e= .returned (.tuple #[])∧fZ g u q v S (S.outs (c - 1) a) b (71::aY c a) w (.returned (.bool true)) C:=by
 obtain ⟨J,K,rfl,_⟩:=A.one;have D:Hid (∀W:World,Below w.heap.size w W→Calls Tryz.prog 171 #[.agg #[.int .i64 c,.slice J a.length K]] W fun e C=>e= .returned (.string (bs (71::aY c a)))∧Below W.heap.size W C):=Lib.hid (fun W k=>ve _ c a W (A.below k) o t f)
 have z:(71::aY c a).length≤1000:=by
  unfold aY;simp only [List.length_cons,List.length_append,bq,iI];omega
 have j:Hid (∀W:World,Below w.heap.size w W→Calls Tryz.prog 123 #[.pointer (some ⟨g,0,none⟩),.string (bs (71::aY c a))] W (fZ g u q v S (S.outs (c - 1) a) b (71::aY c a) W)):=Lib.hid (fun W k=>ko g u q v S _ b _ S.time W (h.below k) (F9 h.kn) (by omega) B (r7 0 g u q v S c S.time a n W (h.below k).inn r ((k.cell p).trans F) M o L t f G d));obtain ⟨l,E⟩:∃l,71::aY c a=l:=⟨_,rfl⟩;rw [E] at D j ⊢;have N:¬(a.length:Int)≤0:=by omega
 have O:(0:Int) < (a.length:Int):=by omega
 have I:=Lib.hid h;clear h A F p E f G d z r;go_enter Tryz.func120,Tryz.ntmps120;go_wp2_with fail
 refine (D.out w (Below.refl _ _)).mono ?_;rintro e P ⟨rfl,m⟩;have i:=Lib.hid m;clear m;go_wp2_with fail
 refine (j.out P i.out).mono ?_;intro e Q s;have y:=Lib.hid (fZ.after I.out i.out s);obtain ⟨rfl,_⟩:=s;go_wp2_with fail
 refine bodyPost_end (results_none rfl _ _ _) rfl ?_;exact ⟨rfl,y.out⟩
theorem uj [Kn] (f u:Nat) (q:Nat→Nat) (v J:Value) (S y:aa) (b:List UInt8) (c:Nat) (a:List Nat) (n:Int) (w:World) (h:eJ w f u q v S b) (r:S.Ok) (C:aZ w J a.length 1 (aX a)) (D:b.length≤1073741824) (H:w.cell? ⟨0,0,none⟩=some (.int .i64 n)) (p:0 < w.heap.size) (P:S.items.length < 4294967295) (o:c≤4294967295) (N:1≤a.length) (t:a.length≤100) (g:∀x∈a,x≤255) (I:bC a=true) (d:bu S c a=true) (O:S.time≤1000000000) (A:S.takesF S.time c a=some y):
  Calls Tryz.prog 83 #[.pointer (some ⟨f,0,none⟩),.int .i64 c,J] w fun e E=>e= .returned (.tuple #[])∧fZ f u q v S y b (70::(aB 4 S.time++aY c a)) w (.returned (.bool true)) E:=by
 obtain ⟨L,M,rfl,_⟩:=C.one;have F:Hid (∀W:World,Below w.heap.size w W→Calls Tryz.prog 124 #[.int .i64 S.time,.agg #[.int .i64 c,.slice L a.length M]] W fun e E=>e= .returned (.string (bs (70::(aB 4 S.time++aY c a))))∧Below W.heap.size W E):=Lib.hid (fun W k=>rk _ S.time c a W (C.below k) (by omega) o t g)
 have B:(70::(aB 4 S.time++aY c a)).length≤1000:=by
  unfold aY;simp only [List.length_cons,List.length_append,bq,iI];omega
 have j:Hid (∀W:World,Below w.heap.size w W→Calls Tryz.prog 123 #[.pointer (some ⟨f,0,none⟩),.string (bs (70::(aB 4 S.time++aY c a)))] W (fZ f u q v S y b (70::(aB 4 S.time++aY c a)) W)):=Lib.hid (fun W k=>ko f u q v S _ b _ S.time W (h.below k) (Dt h.kn A) (by omega) D (rZ 0 f u q v S y c S.time a n W (h.below k).inn r ((k.cell p).trans H) P o N t g I d O (Nat.le_refl _) A));obtain ⟨l,G⟩:∃l,70::(aB 4 S.time++aY c a)=l:=⟨_,rfl⟩;rw [G] at F j ⊢;have Q:(0:Int) < (a.length:Int):=by omega
 have T:w.cell? ⟨f,1,none⟩=some (.int .i64 S.time):=by rw [Lib.cell_of_heap h.inn.bag];rfl
 have K:=Lib.hid h;clear h C H p G g I d B r A;go_enter Tryz.func83,Tryz.ntmps83;go_wp2_with fail
 refine (F.out w (Below.refl _ _)).mono ?_;rintro e R ⟨rfl,m⟩;have i:=Lib.hid m;clear m;go_wp2_with fail
 refine (j.out R i.out).mono ?_;intro e U s;have z:=Lib.hid (fZ.after K.out i.out s);obtain ⟨rfl,_⟩:=s;go_wp2_with fail
 refine bodyPost_end (results_none rfl _ _ _) rfl ?_;exact ⟨rfl,z.out⟩
theorem AE (d:Nat) (b:Value) (c:Int) (w:World) (a:aZ w b 0 1 []):
  Calls Tryz.prog 120 #[.pointer (some ⟨d,0,none⟩),.int .i64 c,b] w fun e f=>e= .returned (.tuple #[])∧w=f:=by
 obtain ⟨g,h,rfl,_⟩:=a.one;clear a;go_enter Tryz.func120,Tryz.ntmps120;go_wp2_with fail
 refine bodyPost_end (results_none rfl _ _ _) rfl ?_;exact ⟨rfl,rfl⟩
theorem wM (d:Nat) (b:Value) (c:Int) (w:World) (a:aZ w b 0 1 []):
  Calls Tryz.prog 83 #[.pointer (some ⟨d,0,none⟩),.int .i64 c,b] w fun e f=>e= .returned (.tuple #[])∧w=f:=by
 obtain ⟨g,h,rfl,_⟩:=a.one;clear a;go_enter Tryz.func83,Tryz.ntmps83;go_wp2_with fail
 refine bodyPost_end (results_none rfl _ _ _) rfl ?_;exact ⟨rfl,rfl⟩
theorem bf.waits {d E B:Nat} {q:Nat→Nat} {J:Value} {S:aa} {w t:World} (h:bf d w E B q J S) {i:Nat} (y:i∈S.live) (s:aH (q i) w t) {C:Array Value} (r:w.heap[q i]? =some (.cells C 158 (0,0))) (a b:Int)
  (F:t.heap[q i]? =some (.cells ((C.setIfInBounds 4 (.int .i64 a)).setIfInBounds 5 (.int .i64 b)) 158 (0,0))):bf d t E B q J S∧(∀k,fA t E B q S k→fA w E B q S k)∧∀D,iM w q S.live D→iM t q S.live (fun j=>if j=i then (a,b) else D j):=by
 obtain ⟨T,I,V,K,U⟩:=h.mail i y;have c:=K;unfold dD at c;rw [r] at c;injection c with c;injection c with c;subst c;refine ⟨⟨aJ s h.bag (fun e=>?_),aJ s h.map (fun e=>?_),h.pbb,h.mbb,h.one,fun j f=>?_⟩,fun k R=>?_,fun D Q j f=>?_⟩
 ·rw [←e,h.bag] at r;simp at r
 ·have:=h.map;unfold fP at this;rw [e,r] at this;simp at this
 ·obtain ⟨H,v,x,l,L⟩:=h.mail j f
  have n:t.ownsRow d 162 2 v (S.stayOf j).length (aL (S.stayOf j)):=ax L fun g M e _=>aJ s e fun o=>by
   rw [o,r] at e;simp at e
  by_cases e:j=i
  ·subst e;unfold dD at l;rw [r] at l;injection l with l;injection l with l
   have u:I=v:=by
    have:=congrArg (fun A:Array Value=>A[2]?) l;simpa using this
   subst u;exact ⟨H,I,(a,b),F,n⟩
  ·exact ⟨H,v,x,aJ s l (fun o=>e (h.one j f i y o)),n⟩
 ·rcases R with e | e | ⟨j,f,e | ⟨D,z,m,u⟩⟩
  ·exact .inl e
  ·exact .inr (.inl e)
  ·exact .inr (.inr ⟨j,f,.inl e⟩)
  ·by_cases p:j=i
   ·subst p;rw [F] at m;injection m with m;injection m with m;subst m;exact .inr (.inr ⟨j,f,.inr ⟨_,_,r,u⟩⟩)
   ·obtain ⟨_,v,x,l,_⟩:=h.mail j f;rw [s.2 _ (fun o=>p (h.one j f i y o))] at m;exact .inr (.inr ⟨j,f,.inr ⟨_,_,m,u⟩⟩)
 ·by_cases p:j=i
  ·subst p;exact ⟨_,F,by simp,by simp⟩
  ·obtain ⟨D',N,O,P⟩:=Q j f;have G:q j≠q i:=fun o=>p (h.one j f i y o);exact ⟨D',(s.2 _ G).trans N,by simp only [if_neg p];exact O,by simp only [if_neg p];exact P⟩
abbrev il (K:Kn) (S':aa) (i:Nat) (d:Int×Int):Kn:=⟨fun j=>if j=i then d else @bQ K S' j,S'.items.length,K.tk⟩
def j8 (l:List Int) (f:Int):Int:=l.getD (if (l.length:Int) - 1 < f then l.length - 1 else f.toNat) 0
theorem eJ.rekn [K:Kn] {w:World} {g f:Nat} {q:Nat→Nat} {b:Value} {S:aa} {a:List UInt8} {i:Nat} {d:Int×Int} (h:bf 0 w g f q b S) (k:dH w b a) (l:iM w q S.live (fun j=>if j=i then d else bQ S j)):@eJ (il K S i d) w g f q b S a:=
 @eJ.mk (il K S i d) _ _ _ _ _ _ _ h k (fun j c=>by
  have e:@bQ (il K S i d) S j=if j=i then d else bQ S j:=by
   show (if j < S.items.length then (if j=i then d else bQ S j) else _)=_;rw [if_pos (bm c)]
  rw [e]
  exact l j c) (Nat.le_refl _)
def fW [K:Kn] (pb mb:Nat) (q:Nat→Nat) (vr:Value) (S:aa) (y:aa×List UInt8) (w w':World):Prop:=
 ∃q' vr',eJ w' pb mb q' vr' y.1 y.2∧aF (an w pb mb q vr S) w w'∧∀k,an w' pb mb q' vr' y.1 k→an w pb mb q vr S k∨w.heap.size≤k
theorem yi [K:Kn] (d o:Nat) (q:Nat→Nat) (g f:Value) (S:aa) (a:List UInt8) (i:Nat) (b:List Nat) (n:Int) (w:World) (h:eJ w d o q g S a) (m:uf (S,a)) (t:aZ w f b.length 1 (aX b)) (s:w.cell? ⟨0,0,none⟩=some (.int .i64 n)) (C:i≤4294967294) (j:b.length≤100) (l:∀x∈b,x≤255) (z:bC b=true) (c:b≠[]→bu S (i+1) b=true):
  Calls Tryz.prog 120 #[.pointer (some ⟨d,0,none⟩),.int .i64 ((i:Int)+1),f] w fun e r=>e= .returned (.tuple #[])∧fW d o q g S (kH (S,a) i b) w r:=by
 by_cases e:b=[]
 ·subst e;refine (AE d f _ w t).mono ?_;rintro e r ⟨rfl,rfl⟩;exact ⟨rfl,q,g,h,aF.refl _ _,fun k e=> .inl e⟩
 ·refine (yB d o q g f S a (i+1) b n w h m.ok t (by have:=m.led.len;simp only at this;omega) s (aA s) (by have:=m.led.items;simp only at this;omega) (by omega) (List.length_pos_iff.2 e) j l z (c e)).mono ?_;rintro B r ⟨rfl,_,A,p,u,v,y⟩;unfold kH;rw [if_neg e];exact ⟨rfl,A,p,u,v,y⟩
theorem mK [K:Kn] (g o:Nat) (q:Nat→Nat) (l j:Value) (S:aa) (a:List UInt8) (i:Nat) (b:List Nat) (n:Int) (w:World) (h:eJ w g o q l S a) (f:uf (S,a)) (t:aZ w j b.length 1 (aX b)) (s:w.cell? ⟨0,0,none⟩=some (.int .i64 n)) (E:i≤4294967294) (d:b.length≤100) (m:∀x∈b,x≤255) (u:bC b=true) (c:b≠[]→bu S (i+1) b=true):
  Calls Tryz.prog 83 #[.pointer (some ⟨g,0,none⟩),.int .i64 ((i:Int)+1),j] w fun e r=>e= .returned (.tuple #[])∧fW g o q l S (kG (S,a) i b) w r:=by
 by_cases e:b=[]
 ·subst e;refine (wM g j _ w t).mono ?_;rintro e r ⟨rfl,rfl⟩;exact ⟨rfl,q,l,h,aF.refl _ _,fun k e=> .inl e⟩
 ·have B:=(pN f d u c).2 e;refine (uj g o q l j S _ a (i+1) b n w h f.ok t (by have:=f.led.len;simp only at this;omega) s (aA s) (by have:=f.led.items;simp only at this;omega) (by omega) (List.length_pos_iff.2 e) d m u (c e) f.time B).mono ?_;rintro D r ⟨rfl,_,C,p,y,z,A⟩;refine ⟨rfl,C,p,?_,z,A⟩;have v:(kG (S,a) i b).2=a++fi (70::(aB 4 S.time++aY (i+1) b)):=by unfold kG;rw [if_neg e]
  rw [v];exact y
def IL (w:World) (pb mb:Nat) (q:Nat→Nat) (vr:Value) (S:aa) (v:Value):Prop:=∀g,v.ownBlock=some g→g < w.heap.size∧¬an w pb mb q vr S g
theorem Ch [K:Kn] (d f:Nat) (q:Nat→Nat) (H vg vf vw:Value) (S:aa) (a:List UInt8) (i:Nat) (u m:List Nat) (c:List Int) (n:Int) (w:World) (h:eJ w d f q H S a) (hx:uf (S,a)) (hi:i∈S.live) (rg:aZ w vg u.length 1 (aX u)) (rf:aZ w vf m.length 1 (aX m)) (Z:aZ w vw c.length 1 (gP c)) (of:IL w d f q H S vf) (ow:IL w d f q H S vw)
  (hm:w.cell? ⟨0,0,none⟩=some (.int .i64 n)) (c4:¬an w d f q H S 0) (b7:u.length≤100) (b5:m.length≤100) (b6:∀x∈u,x≤255) (b4:∀x∈m,x≤255) (c5:bC u=true) (X:bC m=true) (r:∀p∈u,p∈(S.stayOf i).map (·.1)) (hf:∀p∈m,p∈(S.stayOf i).map (·.1)) (hd:∀p∈u,p ∉ m)
  (f3:1≤c.length) (f5:c.length≤100) (c6:∀x∈c,1≤x∧x≤1000000000) (b2:0≤(bQ S i).2) (b3:(bQ S i).2≤1000000000000):
  Calls Tryz.prog 79 #[.pointer (some ⟨d,0,none⟩),.int .i64 ((i:Int)+1),vg,vf,vw] w fun e w'=>e= .returned (.tuple #[])∧∃q' c7,@eJ (il K (kj (S,a) i u m).1 i (S.time+j8 c (bQ S i).2,(bQ S i).2+1)) w' d f q' c7 (kj (S,a) i u m).1 (kj (S,a) i u m).2∧aF (an w d f q H S) w w'∧∀k,an w' d f q' c7 (kj (S,a) i u m).1 k→an w d f q H S k∨w.heap.size≤k:=by
 obtain ⟨m1,l1,m2,l2,t2⟩:=qG hx hi b7 b5 X r hf hd;have e5:i < S.items.length:=bm hi;have b8:i≤4294967294:=by have:=hx.led.items;simp only at this;omega
 have HG:=Lib.hid (yi d f q H vg S a i u n w h hx rg hm b8 b7 b6 c5 m1);obtain ⟨G,R⟩:∃G,kH (S,a) i u=G:=⟨_,rfl⟩;obtain ⟨I,T⟩:∃I,kj (S,a) i u m=I:=⟨_,rfl⟩;have b1:kG G i m=I:=by rw [←R,←T];rfl
 rw [R] at HG l1 m2 l2 t2;rw [T] at l2 t2 ⊢;have Q:=l1.aft.trans l2.aft;have eD:bQ I.1 i=bQ S i:=by unfold bQ;rw [Q.mail i e5]
 have eT:I.1.time=S.time:=Q.time
 have HF:Hid (∀Y s (E:World),eJ E d f Y s G.1 G.2→aZ E vf m.length 1 (aX m)→E.cell? ⟨0,0,none⟩=some (.int .i64 n)→Calls Tryz.prog 83 #[.pointer (some ⟨d,0,none⟩),.int .i64 ((i:Int)+1),vf] E fun e w'=>e= .returned (.tuple #[])∧fW d f Y s G.1 I E w'):=Lib.hid (fun Y s E h1 h2 h3=>by
  have:=mK d f Y s vf G.1 G.2 i m n E h1 l1.ok h2 h3 b8 b5 b4 X m2;rw [show kG (G.1,G.2) i m=I from b1] at this
  exact this)
 obtain ⟨F,eF⟩:∃F,(bQ S i).2=F:=⟨_,rfl⟩;obtain ⟨aw,cw,ew,e4⟩:=Z.one
 obtain ⟨k,V,M⟩:∃k:Nat,k < c.length∧(if (c.length:Int) - 1 < F then (c.length:Int) - 1 else F)=(k:Int)∧j8 c F=c.getD k 0:=by
  rw [eF] at b2 b3
  by_cases hc:(c.length:Int) - 1 < F
  ·refine ⟨c.length - 1,by omega,?_,?_⟩
   ·rw [if_pos hc];omega
   ·unfold j8;rw [if_pos hc]
  ·refine ⟨F.toNat,by omega,?_,?_⟩
   ·rw [if_neg hc];omega
   ·unfold j8;rw [if_neg hc]
 obtain ⟨M,e6⟩:=M;obtain ⟨W,eW⟩:∃W,c.getD k 0=W:=⟨_,rfl⟩
 have hW:1≤W∧W≤1000000000:=by
  rw [←eW,List.getD_eq_getElem?_getD,List.getElem?_eq_getElem V];exact c6 _ (List.getElem_mem V)
 rw [eF,e6,eW];have f0:S.time≤1000000000:=hx.time;have HH:=Lib.hid h;have e8:=Lib.hid l2.ok;have a9:=Lib.hid Z;have d2:=Lib.hid of;have a7:=Lib.hid ow;have d3:=Lib.hid rf;have d1:=Lib.hid c4;have HM:=Lib.hid hm
 have c8:Hid (∀W2:World,aZ W2 vw c.length 1 (gP c)→∃b A,aw=some ⟨b,A,none⟩∧W2.cell? ⟨b,A+k,none⟩=some (.int .i64 W)):=Lib.hid (fun W2 hr=>by
  obtain ⟨a',c',e',e0⟩:=hr.one;rw [ew] at e';injection e' with e1 _ _;obtain ⟨b,A,e2,_,e3⟩:=e0 k V;refine ⟨b,A,e1.trans e2,?_⟩;rw [e3,←eW];unfold gP;rw [List.getElem?_map,List.getElem?_eq_getElem V,List.getD_eq_getElem?_getD,List.getElem?_eq_getElem V]
  rfl)
 have b0:=Lib.hid (l2.ok.led.items);have c9:=Lib.hid eD;rw [eF] at b2 b3;clear h hx rg rf Z of ow hm c4 l1 l2 m1 m2 t2 r hf hd c5 X b6 b4 R T b1 Q eD c6 e4 eW;subst ew;go_enter Tryz.func79,Tryz.ntmps79;go_wp2_with fail
 refine HG.out.mono ?_;rintro e E ⟨rfl,Y,s,R1,K1,O1⟩;have O:∀{v:Value},IL w d f q H S v→IL E d f Y s G.1 v:=fun ho g r=>⟨Nat.lt_of_lt_of_le (ho g r).1 K1.size,fun e=>(O1 g e).elim (ho g r).2 (fun e=>by have:=(ho g r).1;omega)⟩;have e7:0 < w.heap.size:=aA HM.out;have M1:E.cell? ⟨0,0,none⟩=some (.int .i64 n):=(World.cell?_of_block (K1.block _ e7 d1.out)).trans HM.out;have d0:=Lib.hid (HF.out Y s E R1 (d3.out.chg K1 (fun g r=>(d2.out g r).2)) M1);have d7:=Lib.hid (a9.out.chg K1 (fun g r=>(a7.out g r).2));have a8:=Lib.hid (O a7.out);have a4:=Lib.hid K1;have a6:=Lib.hid O1;clear R1 K1 O1 O M1;go_wp2_with fail
 refine d0.out.mono ?_;rintro e l ⟨rfl,B,a0,N,K2,O2⟩;have a5:Hid (aF (an w d f q H S) w l):=Lib.hid (a4.out.trans K2 (fun k V e=>(a6.out k e).elim id (fun e=>by omega)));have P:Hid (∀k,an l d f B a0 I.1 k→an w d f q H S k∨w.heap.size≤k):=Lib.hid (fun k e=>(O2 k e).elim (a6.out k) (fun e=> .inr (Nat.le_trans a4.out.size e)));obtain ⟨b,A,ea,cb⟩:=c8.out l (d7.out.chg K2 (fun g r=>(a8.out g r).2));subst ea;have c3:l.cell? ⟨d,3,none⟩=some (.map (some f)):=by rw [Lib.cell_of_heap N.inn.bag];rfl
 have c1:l.cell? ⟨d,1,none⟩=some (.int .i64 (S.time:Int)):=by rw [Lib.cell_of_heap N.inn.bag,←eT];rfl
 have y:∀i∈I.1.live,i < 4294967296:=fun i hi=>by have:=bm hi;have:=b0.out;omega
 have o:=Lib.hid N;clear K2 O2
 by_cases hl:i∈I.1.live
 ·have c0:(Instr.lookup 115 (.map (some f)) (.int .i64 ((i:Int)+1)) true).run Tryz.prog l= .ok (.tuple #[.pointer (some ⟨B i,0,none⟩),.bool true]) l:=
   gQ (t:=115) (e:=122) fJ Tryz.underlying115 N.inn.map y i (by omega) hl true
  obtain ⟨C,hC,U,D⟩:=N.due i hl;rw [c9.out] at U D;rw [eF] at D;have J:l.drew.heap[B i]? =some (.cells C 158 (0,0)):=hC;have d4:l.drew.cell? ⟨B i,4,none⟩=some (.int .i64 (bQ S i).1):=by rw [Lib.cell_of_heap J,U]
  have d5:l.drew.cell? ⟨B i,5,none⟩=some (.int .i64 F):=by rw [Lib.cell_of_heap J,D]
  have f4:=Lib.frozen_of_heap J 4;have e1:l.drew.cell? ⟨d,1,none⟩=some (.int .i64 (S.time:Int)):=c1;have c2:min F ((c.length:Int) - 1)=(k:Int):=by rw [←M];by_cases hc:(c.length:Int) - 1 < F <;> simp only [hc,if_true,if_false] <;> omega
  have eb:l.drew.cell? ⟨b,A+(min F ((c.length:Int) - 1)).toNat,none⟩=some (.int .i64 W):=by rw [c2,Int.toNat_natCast];exact cb
  have f8:IntKind.i64.wrap ((S.time:Int)+W)=(S.time:Int)+W:=by rw [IntKind.wrap_i64];omega
  have f6:IntKind.i64.wrap (F+1)=F+1:=by rw [IntKind.wrap_i64];omega
  have f7:IntKind.i64.wrap ((c.length:Int) - 1)=(c.length:Int) - 1:=by rw [IntKind.wrap_i64];omega
  have f2:(0:Int)≤min F ((c.length:Int) - 1):=by omega
  have f1:min F ((c.length:Int) - 1) < (c.length:Int):=by omega
  obtain ⟨W3,L⟩:∃W3:World,(l.setCell ⟨B i,4,none⟩ (.int .i64 (S.time+W))).drew=W3:=⟨_,rfl⟩;have S3:aH (B i) l W3:=by rw [←L];exact ((aH.refl _ _).setCell _).drew
  have X3:W3.heap[B i]? =some (.cells (C.setIfInBounds 4 (.int .i64 (S.time+W))) 158 (0,0)):=by rw [←L];exact heap_setCell_same l _ 4 _ _ _ hC
  have x5:W3.cell? ⟨B i,5,none⟩=some (.int .i64 F):=by rw [Lib.cell_of_heap X3,Array.getElem?_setIfInBounds_ne (by decide)];exact D
  have y5:=Lib.frozen_of_heap X3 5;have HC:=Lib.hid hC;have d9:=Lib.hid X3;have d6:=Lib.hid S3;have d8:=Lib.hid L;clear N hC U D y J X3 S3 L;go_wp2_with fail
  clear c1 cb c3 c0 c2 M;go_region
  all_goals
   rw [d8.out];go_wp2_with fail
   refine bodyPost_end (results_none rfl _ _ _) rfl ?_;have S1:aH (B i) l (W3.setCell ⟨B i,5,none⟩ (.int .i64 (F+1))):=d6.out.setCell _;obtain ⟨g1,g2,g3⟩:=o.out.inn.waits hl S1 HC.out (S.time+W) (F+1) (heap_setCell_same _ _ 5 _ _ _ d9.out);refine ⟨rfl,B,a0,eJ.rekn g1 (o.out.row.chg (aF.same S1) (fun g r e=>?_)) (g3 _ o.out.due),a5.out.trans (aF.same S1) (fun k V e=>?_),fun k e=>P.out k (e.imp (g2 k) id)⟩
   ·rw [e] at r;obtain ⟨e9,z,h1⟩:=o.out.row.tag r;rw [HC.out] at h1;simp at h1
   ·exact (P.out k (.inl (.inr (.inr ⟨i,hl,.inl e⟩)))).elim id (fun e=>by omega)
 ·have c0:(Instr.lookup 115 (.map (some f)) (.int .i64 ((i:Int)+1)) true).run Tryz.prog l= .ok (.tuple #[.pointer none,.bool false]) l:=
   qB (t:=115) (e:=122) fJ Tryz.underlying115 (ot _) N.inn.map y i (by omega) hl true
  clear N y;go_wp2_with fail
  refine bodyPost_end (results_none rfl _ _ _) rfl ?_;refine ⟨rfl,B,a0,eJ.rekn o.out.inn o.out.row (fun j hj=>?_),a5.out,P.out⟩;have:j≠i:=fun e=>hl (by rw [←e];exact hj);obtain ⟨C,a1,a2,a3⟩:=o.out.due j hj;exact ⟨C,a1,by simp only [if_neg this];exact a2,by simp only [if_neg this];exact a3⟩
structure gZ (S S':aa):Prop where
 len:S.items.length≤S'.items.length
 mail:∀j,j < S.items.length→S'.mailOf j=S.mailOf j
 stay:∀j,j < S.items.length→∀r∈S'.stayOf j,r∈S.stayOf j
 new:∀j,S.items.length≤j→j < S'.items.length→vh (S'.mailOf j)
theorem gZ.refl (S:aa):gZ S S:=⟨Nat.le_refl _,fun _ _=>rfl,fun _ _ _ h=>h,fun _ a b=>by omega⟩
theorem gZ.trans {S d a:aa} (h:gZ S d) (b:gZ d a):gZ S a:=
 ⟨Nat.le_trans h.len b.len,fun j c=>(b.mail j (Nat.lt_of_lt_of_le c h.len)).trans (h.mail j c),fun j c r i=>h.stay j c r (b.stay j (Nat.lt_of_lt_of_le c h.len) r i),fun j f g=>by
  by_cases e:j < d.items.length
  ·rw [b.mail j e];exact h.new j f e
  ·exact b.new j (by omega) g⟩
theorem Left.later {x y:aa×List UInt8} {i:Nat} {c:List Nat} (h:Left x y i c):gZ x.1 y.1:=
 ⟨h.aft.len,h.aft.mail,fun j b r a=>by
  by_cases e:j=i
  ·subst e;rw [h.stay] at a;exact (List.mem_filter.1 a).1
  ·rw [h.aft.stay j b e] at a
   exact a,h.new⟩
theorem Bv (S:aa) (T:Nat):gZ S ⟨S.items,T⟩:=⟨Nat.le_refl _,fun _ _=>rfl,fun _ _ _ h=>h,fun j h1 (a:j < S.items.length)=>by omega⟩
theorem qJ (a:List (List UInt8)) (o:List Bool):((stay a o).map (·.1)).Pairwise (·< ·):=by
 unfold stay;rw [List.map_map];have:((fun r:Nat×List UInt8=>r.1) ∘ fun i=>(i,a.getD i []))=id:=rfl;rw [this,List.map_id];exact lI o _
theorem tI {S:aa} (h:S.Ok) (i:Nat):∀x∈(S.stayOf i).map (·.1),x≤255:=by
 intro x d;obtain ⟨r,a,rfl⟩:=List.mem_map.1 d
 rcases Nat.lt_or_ge i S.items.length with b | b
 ·rw [gF b] at a;unfold stay at a;obtain ⟨k,c,rfl⟩:=List.mem_map.1 a;unfold ix at c;have:=List.mem_range.1 (List.mem_filter.1 c).1;have:=h.sz S.items[i] (List.getElem_mem b);show k≤255;omega
 ·rw [pZ b] at a;cases a
def mI (life:Int) (x:aa×List UInt8) (i:Nat):aa×List UInt8:=if life≤(x.1.time:Int) - ((x.1.mailOf i).time:Int) then kG x i ((x.1.stayOf i).map (·.1)) else x
def dt (life:Int) (x:aa×List UInt8) (l:List Nat):aa×List UInt8:=l.foldl (mI life) x
theorem tS (a:Int) (x:aa×List UInt8) (l:List Nat) (i:Nat):dt a x (l++[i])=mI a (dt a x l) i:=by unfold dt;rw [List.foldl_append];rfl
theorem yZ {x:aa×List UInt8} (h:uf x) {i:Nat} (a:i∈x.1.live):((x.1.stayOf i).map (·.1)).length≤100∧bC ((x.1.stayOf i).map (·.1))=true∧((x.1.stayOf i).map (·.1)≠[]→bu x.1 (i+1) ((x.1.stayOf i).map (·.1))=true):=by
 refine ⟨by rw [List.length_map];have:=dp h.ok i;omega,mW (qJ _ _),fun e=>BF a (List.length_pos_iff.2 e) (fun p b=>b)⟩
theorem EB {x:aa×List UInt8} (h:uf x) {i:Nat} (e:i∈x.1.live) (d:Int):uf (mI d x i)∧Cx i x.1 (mI d x i).1∧gZ x.1 (mI d x i).1:=by
 unfold mI
 split
 ·obtain ⟨a,b,c⟩:=yZ h e;have:=(pN h a b c).1;exact ⟨this.ok,this.aft,this.later⟩
 ·exact ⟨h,Cx.refl _ _,gZ.refl _⟩
theorem ER {S a:aa} {i j:Nat} (h:Cx i S a) (b:j∈S.live) (d:j≠i):j∈a.live:=by
 have c:=bm b;refine xI ?_;rw [h.stay j c d];exact (ju.1 b).2
theorem qe {x:aa×List UInt8} (h:uf x) (d:Int) {l:List Nat} (q:∀i∈l,i∈x.1.live) (r:l.Nodup):∀k,k≤l.length→uf (dt d x (l.take k))∧(∀i∈l.drop k,i∈(dt d x (l.take k)).1.live)∧(dt d x (l.take k)).1.time=x.1.time∧gZ x.1 (dt d x (l.take k)).1:=by
 intro k
 induction k with
 | zero=>exact fun _=>⟨h,fun i f=>q i f,rfl,gZ.refl _⟩
 | succ k ih=>
  intro s;obtain ⟨n,g,o,p⟩:=ih (by omega);rw [List.take_succ_eq_append_getElem (by omega:k < l.length),tS];have m:l.drop k=l[k]::l.drop (k+1):=List.drop_eq_getElem_cons (by omega);rw [m] at g;obtain ⟨a,b,c⟩:=EB n (g _ (List.mem_cons_self ..)) d;have j:(l[k]::l.drop (k+1)).Nodup:=by rw [←m];exact r.sublist (List.drop_sublist _ _)
  exact ⟨a,fun i f=>ER b (g i (List.mem_cons_of_mem _ f)) (fun e=>(List.nodup_cons.1 j).1 (by rw [←e];exact f)),b.time.trans o,p.trans c⟩
theorem fW.trans [Kn] {b a:Nat} {q l:Nat→Nat} {d c:Value} {S:aa} {x y:aa×List UInt8} {w g m:World} (i:aF (an w b a q d S) w g) (j:∀k,an g b a l c x.1 k→an w b a q d S k∨w.heap.size≤k) (h:fW b a l c x.1 y g m):fW b a q d S y w m:=by
 obtain ⟨r,f,n,o,p⟩:=h;exact ⟨r,f,n,i.trans o (fun k s e=>(j k e).elim id (fun e=>by omega)),fun k e=>(p k e).elim (j k) (fun e=> .inr (Nat.le_trans i.size e))⟩
theorem fW.below [Kn] {pb b:Nat} {q:Nat→Nat} {c:Value} {S:aa} {a:List UInt8} {y:aa×List UInt8} {w f g:World} (i:eJ w pb b q c S a) (d:Below w.heap.size w f) (h:fW pb b q c S y f g):fW pb b q c S y w g:=
 fW.trans (x:=(S,a)) (aF.below d) (fun _ e=> .inl (e.imp (cI i.inn d) id)) h
theorem eJ.timed [Kn] {a c:Nat} {q:Nat→Nat} {d:Value} {S:aa} {b:List UInt8} {w:World} (h:eJ w a c q d S b) (T:Nat):eJ (w.setCell ⟨a,1,none⟩ (.int .i64 T)) a c q d ⟨S.items,T⟩ b∧aF (an w a c q d S) w (w.setCell ⟨a,1,none⟩ (.int .i64 T))∧∀k,an (w.setCell ⟨a,1,none⟩ (.int .i64 T)) a c q d ⟨S.items,T⟩ k→an w a c q d S k∨w.heap.size≤k:=by
 have f:aH a w (w.setCell ⟨a,1,none⟩ (.int .i64 T)):=(aH.refl _ _).setCell _;obtain ⟨l,m⟩:=wv (T:=T) h.inn f;refine ⟨⟨h.inn.timed f (heap_setCell_same w a 1 _ _ (.int .i64 T) h.inn.bag),h.row.chg (aF.same f) (fun g i e=>BS h.inn h.row (by rw [←e];exact i)),m.due (fun _ j=>j) h.due,h.kn⟩,(aF.same f).mono (fun k _ e=> .inl (.inl e)),fun k e=>?_⟩
 rcases e with e | e
 ·exact (l.own k e).imp .inl id
 ·exact .inl (.inr e)
theorem Gu [Kn] (m o:Nat) (q:Nat→Nat) (s:Value) (S:aa) (f:List UInt8) (T:Nat) (d n:Int) (w:World) (h:eJ w m o q s S f) (hx:uf (S,f)) (hT:T≤1000000000) (hm:w.cell? ⟨0,0,none⟩=some (.int .i64 n)) (R:¬an w m o q s S 0):
  Calls Tryz.prog 50 #[.pointer (some ⟨m,0,none⟩),.int .i64 T,.int .i64 d] w fun e w'=>e= .returned (.tuple #[])∧fW m o q s S (dt d (⟨S.items,T⟩,f) S.live) w w':=by
 obtain ⟨R0,K0,O0⟩:=h.timed T;have b1:uf ((⟨S.items,T⟩:aa),f):=⟨hx.ok.time T,hx.led,hT⟩;have c1:w.cell? ⟨m,1,none⟩=some (.int .i64 S.time):=by rw [Lib.cell_of_heap h.inn.bag];rfl
 have f1:w.frozen? ⟨m,1,none⟩=false:=Lib.frozen_of_heap h.inn.bag 1;have F:0 < w.heap.size:=aA hm;have M0:(w.setCell ⟨m,1,none⟩ (.int .i64 T)).cell? ⟨0,0,none⟩=some (.int .i64 n):=(World.cell?_of_block (K0.block _ F R)).trans hm;obtain ⟨z,O⟩:∃z:World,w.setCell ⟨m,1,none⟩ (.int .i64 T)=z:=⟨_,rfl⟩;rw [O] at R0 K0 O0 M0;have J:¬an z m o q s ⟨S.items,T⟩ 0:=fun e=>(O0 _ e).elim R (fun e=>by omega);have c3:w.cell? ⟨m,3,none⟩=some (.map (some o)):=by rw [Lib.cell_of_heap h.inn.bag];rfl
 have a0:=Lib.hid (qe b1 d (l:=S.live) (fun i hi=>hi) (iy S));have a8:=s9 S;have d9:S.items.length≤1000000:=hx.led.items;have c9:=Lib.hid O;have u:=Lib.hid R0;have b7:=Lib.hid K0;have c2:=Lib.hid O0;have a1:=Lib.hid M0;have c0:=Lib.hid J;clear h hx b1 R0 K0 O0 hm R J M0 O F;go_enter Tryz.func50,Tryz.ntmps50;go_wp2_with fail
 rw [c9.out];refine (zu (some o) z).mono ?_;rintro e w2 ⟨rfl,b0⟩;have a4:=Lib.hid b0;clear b0 c3;go_wp2_with fail
 rw [a4.out];refine (mF z o S.items.length q S.live u.out.inn.map (fun i hi=>bm hi) (nB S) (by omega) a8).mono ?_;rintro e A ⟨vk,rfl,D,a5⟩;have Y:Below z.heap.size z A:=((Below.refl _ z).alloc (Nat.le_refl _) _).trans (a5.mono (by omega))
 obtain ⟨ak,ck,rfl⟩:∃a c,vk= .slice a S.live.length c:=by
  rcases D.2 with ⟨e,h0⟩ | ⟨g,d5,d6,e,_⟩
  ·exact ⟨_,_,by rw [h0];exact e⟩
  ·exact ⟨_,_,e⟩
 have R3:=u.out.below Y;have r:∀k,an A m o q s ⟨S.items,T⟩ k→an z m o q s ⟨S.items,T⟩ k:=fun k e=>e.imp (cI u.out.inn Y) id;have c8:=Lib.hid (aC D)
 have c5:Hid (∀g,(Value.slice ak S.live.length ck).ownBlock=some g→¬an A m o q s ⟨S.items,T⟩ g):=Lib.hid (fun g hg e=>by
  have h1:=(D.lt g hg).1;have h2:=an.lt u.out (r g e)
  omega)
 have F:0 < z.heap.size:=aA a1.out;have a2:Hid (A.cell? ⟨0,0,none⟩=some (.int .i64 n)):=Lib.hid ((Y.cell F).trans a1.out);have a3:Hid (¬an A m o q s ⟨S.items,T⟩ 0):=Lib.hid (fun e=>c0.out (r _ e));have Z:Hid (fW m o q s ⟨S.items,T⟩ (⟨S.items,T⟩,f) A A):=Lib.hid ⟨q,s,R3,aF.refl _ _,fun k e=> .inl e⟩;have b3:=Lib.hid Y;clear D a5 R3 Y r a4;go_wp2_with fail
 go_loopw [7,8,20] (fun _ _ i w'=>∃k:Nat,k≤S.live.length∧i= .int .i64 k∧Hid (fW m o q s ⟨S.items,T⟩ (dt d (⟨S.items,T⟩,f) (S.live.take k)) A w')) (fun _ _ i _=>S.live.length - (intOf i).toNat)
 case atStart=>exact ⟨0,Nat.zero_le _,rfl,Z⟩
 case round=>
  clear Z;obtain ⟨k,hk,rfl,V⟩:=hrel;obtain ⟨q1,b2,B,N,O1⟩:=V.out
  by_cases E:k < S.live.length
  ·have d3:(k:Int) < (S.live.length:Int):=by omega
   obtain ⟨G,i2,i3,_⟩:=a0.out k hk;obtain ⟨y,ey⟩:∃y,dt d (⟨S.items,T⟩,f) (S.live.take k)=y:=⟨_,rfl⟩;have K:Hid (dt d (⟨S.items,T⟩,f) (S.live.take (k+1))=mI d y S.live[k]):=Lib.hid (by rw [List.take_succ_eq_append_getElem E,tS,ey]);rw [ey] at B O1 G i2 i3;have p:S.live[k]∈y.1.live:=i2 _ (by rw [List.drop_eq_getElem_cons E];exact List.mem_cons_self ..);obtain ⟨a',d2,ea,hc⟩:=(c8.out.chg N c5.out).one;injection ea with ea1 _ ea3;subst ea1 ea3;obtain ⟨b,e3,rfl,d7,v⟩:=hc k E;have Q:((ie S.live).map fun (i:Int)=>Value.int .i64 i)[k]? =some (.int .i64 ((S.live[k]:Int)+1)):=by simp [ie,E]
   rw [Q] at v
   generalize S.live[k]=i at v p K
   have a7:=bm p;have e1:y.1.items.length≤1000000:=G.led.items;have d4:wr.cell? ⟨m,3,none⟩=some (.map (some o)):=by rw [Lib.cell_of_heap B.inn.bag];rfl
   have d8:(Instr.lookup 115 (.map (some o)) (.int .i64 ((i:Int)+1)) false).run Tryz.prog wr= .ok (.pointer (some ⟨q1 i,0,none⟩)) wr:=
    gQ (t:=115) (e:=122) fJ Tryz.underlying115 B.inn.map (fun j hj=>by have:=bm hj;omega) i (by omega) p false
   obtain ⟨_,v0,x0,C,U⟩:=B.inn.mail i p;have m0:wr.cell? ⟨q1 i,0,none⟩=some (.int .i64 ((y.1.mailOf i).time:Int)):=by rw [Lib.cell_of_heap C];rfl
   have hz:dq (y.1.mailOf i):=by rw [bR a7];exact (G.ok.sz _ (List.getElem_mem a7)).1
   have e2:=hz.2.1;obtain ⟨M,X⟩:∃M,(y.1.mailOf i).time=M:=⟨_,rfl⟩;have e0:IntKind.i64.wrap ((T:Int) - (M:Int))=(T:Int) - (M:Int):=by rw [IntKind.wrap_i64];omega
   have i3:y.1.time=T:=i3
   by_cases H:d≤(T:Int) - (M:Int)
   ·have c6:=Lib.hid (BT 0 (q1 i) _ _ _ v0 (y.1.stayOf i) x0 wr C U (by have:=dp G.ok i;omega));obtain ⟨fa,fb,fc⟩:=yZ G p;have I:0 < A.heap.size:=aA a2.out
    have d0:Hid (∀vp (W:World),Below wr.heap.size wr W→W.ownsRow wr.heap.size 3 1 vp (y.1.stayOf i).length (aX ((y.1.stayOf i).map (·.1)))→Calls Tryz.prog 83 #[.pointer (some ⟨m,0,none⟩),.int .i64 ((i:Int)+1),vp] W fun e w'=>e= .returned (.tuple #[])∧fW m o q1 b2 y.1 (kG y i ((y.1.stayOf i).map (·.1))) W w'):=Lib.hid (fun vp W hb hr=>by
     refine mK m o q1 b2 vp y.1 y.2 i _ n W (B.below hb) G (by rw [List.length_map];exact aC hr) ?_ (by omega) fa (tI G.ok i) fb fc
     exact (hb.cell (Nat.lt_of_lt_of_le I N.size)).trans ((World.cell?_of_block (N.block _ I a3.out)).trans a2.out))
    have L:Hid (mI d y i=kG y i ((y.1.stayOf i).map (·.1))):=Lib.hid (by unfold mI;rw [if_pos (by rw [i3,X];exact H)]);rw [X] at m0;have b8:=Lib.hid N;have c4:=Lib.hid O1;have c7:=Lib.hid B;clear B N O1 C U hc Q V G i2 ey fa fb fc hz X;go_wp2_with fail
    refine c6.out.mono ?_;rintro e w4 ⟨g,rfl,a9,P⟩;have b5:=Lib.hid (d0.out _ w4 P a9);have b4:=Lib.hid P;clear a9 P;go_wp2_with fail
    refine b5.out.mono ?_;rintro e w5 ⟨rfl,a6⟩;have b6:Hid (fW m o q s ⟨S.items,T⟩ (kG y i ((y.1.stayOf i).map (·.1))) A w5):=Lib.hid (fW.trans (x:=y) b8.out c4.out (fW.below c7.out b4.out a6));clear a6;go_wp2_with fail
    exact ⟨⟨k+1,by omega,by go_num,Lib.hid (by rw [K.out,L.out];exact b6.out)⟩,by simp [intOf];omega⟩
   ·have L:Hid (mI d y i=y):=Lib.hid (by unfold mI;rw [if_neg (by rw [i3,X];exact H)]);rw [X] at m0;rw [ey] at V;clear B N O1 C U hc Q G i2 ey hz X;go_wp2_with fail
    exact ⟨⟨k+1,by omega,by go_num,Lib.hid (by rw [K.out,L.out];exact V.out)⟩,by simp [intOf];omega⟩
  ·have d1:k=S.live.length:=by omega
   subst d1;rw [List.take_length] at V;clear B N O1;go_wp2_with fail
   refine bodyPost_end (results_none rfl _ _ _) rfl ?_;exact ⟨rfl,fW.trans (x:=((⟨S.items,T⟩:aa),f)) b7.out c2.out (fW.below u.out b3.out V.out)⟩
open Go.Conc Go.RowKit
theorem qq {P:Program} {a:Act} {o:Oper} {w:World} (s x:Operand) (t:TypeId) (b:o.op= .call {callee:= .builtin .append,args:=#[s,x],argTypes:=#[t,t]}) (v y r:Value) (w':World) (d:a.eval s=v) (e:a.eval x=y) (c:(Builtin.append_ #[t,t] o.type #[v,y]).run P w= .ok r w'):(execOp a.eval o).run P w= .ok (.value r) w':=by
 unfold execOp;simp only [b,resolve,invoke,builtin,Sem.run_bind,Sem.run_pure,Result.andThen_ok,List.map_toArray,List.map_cons,List.map_nil,d,e,c]
structure kc (w0 w:World) (ch:Nat) (vg vf:Value) (gs fs:List Nat):Prop where
 chg:aF (fun j=>j=ch) w0 w
 rg:w.ownsRow w0.heap.size 3 1 vg gs.length (aX gs)
 rf:w.ownsRow w0.heap.size 3 1 vf fs.length (aX fs)
 ap:∀k,vg.ownBlock=some k→vf.ownBlock≠some k
section
variable {w0 w w':World} {ch:Nat} {vg vf:Value} {gs fs:List Nat}
theorem kc.swap (h:kc w0 w ch vg vf gs fs):kc w0 w ch vf vg fs gs:=⟨h.chg,h.rf,h.rg,fun k e a=>h.ap k a e⟩
theorem kc.keep (h:kc w0 w ch vg vf gs fs) (a:aF (fun j=>j=ch) w w') (c:ch < w0.heap.size):kc w0 w' ch vg vf gs fs:=
 ⟨h.chg.trans a (fun _ _ e=>e),br h.rg a (fun g e b=>by have:=(h.rg.lt g e).1;omega),br h.rf a (fun g e b=>by have:=(h.rf.lt g e).1;omega),h.ap⟩
theorem kc.plus (h:kc w0 w ch vg vf gs fs) (y:ch < w0.heap.size) (x B:Nat) (v:w.heap[B]? =some (.cells #[.int .i64 (x:Int)] 3 (0,0))) (E:gs.length≤1000):
  ∃g d w',(Builtin.append_ #[28,28] 28 #[vg,.slice (some ⟨B,0,none⟩) 1 1]).run Tryz.prog w= .ok (.slice (some ⟨g,0,none⟩) (gs.length+1) d) w'∧kc w0 w' ch (.slice (some ⟨g,0,none⟩) (gs.length+1) d) vf (gs++[x]) fs∧w'.heap[ch]? =w.heap[ch]? :=by
 obtain ⟨i,z,l,m,n⟩:=info_parts pQ;have c:=h.chg.size;obtain ⟨g,d,w',D,q,r⟩:=gj (P:=Tryz.prog) w 28 28 w0.heap.size 3 i _ 1 8 Tryz.underlying28 z l m n rfl (by decide) vg gs.length (aX gs) h.rg ⟨B,0,none⟩ 1 1 [.int .i64 (x:Int)] rfl (World.news_of_block (cs:=#[.int .i64 (x:Int)]) (t:=3) (fr:=(0,0)) v) (by intro u p;simp at p;rw [p];rfl) (by decide) (by unfold maxLen;omega) (by omega) c
 have a:aF (fun k=>vg.ownBlock=some k) w w':=by
  rcases r with ⟨b,j⟩ | ⟨_,j⟩
  ·exact (aF.grown j).mono fun k _ e=>b.trans e
  ·exact (aF.grown j).mono fun k _ e=>by cases e
 have s:vg.ownBlock=some g∨w.heap.size≤g:=by
  rcases r with ⟨b,_⟩ | ⟨b,_⟩
  ·exact .inl b
  ·exact .inr (by rw [b];exact Nat.le_refl _)
 refine ⟨g,d,w',D,⟨⟨Nat.le_trans c a.size,fun k A C=>(a.block k (by omega) (fun e=>by have:=(h.rg.lt k e).1;omega)).trans (h.chg.block k A C),h.chg.still.trans a.still⟩,?_,br h.rf a (fun k e f=>h.ap k f e),fun k e f=>?_⟩,a.block ch (by omega) (fun e=>by have:=(h.rg.lt ch e).1;omega)⟩
 ·rw [List.length_append];unfold aX at q ⊢;rw [List.map_append];exact q
 ·have e:g=k:=by simpa [Value.ownBlock] using e
  subst e
  rcases s with o | o
  ·exact h.ap g o f
  ·have:=(h.rf.lt g f).2;omega
end
theorem Dg (O ch C:Nat) (w0:World) (cs:List Frame) (R:Value→Value→World→Prop) (a:ch < w0.heap.size) (a2:O≠ch) (i:w0.cell? ⟨O,9,none⟩=some (.chan (some ch))):
  ∀(u:List (Nat×Bool)) (gs fs:List Nat) (w:World) (s r:Nat) (vg vf u1 u4 u5 u6 u7 u8 u9 u10 u11 u12 u13 u14 u15 u16 u17 u18 u19 u20 u21 u22 u23 u24 u25 u26 u27 u28 u29 u30:Value),kc w0 w ch vg vf gs fs→w.heap[ch]? =some (.chan C (u.map cR).toArray false s r false)→gs.length+fs.length+u.length≤1000→
   (∀w' m l B A,kc w0 w' ch m l B A→B=lN (gs++(u.filter fun x=>x.2 == true).map (·.1))→A=lN (fs++(u.filter fun x=>x.2 == false).map (·.1))→(∃s' r',w'.heap[ch]? =some (.chan C #[] false s' r' false))→R m l w')→
   LoneTo Tryz.prog (fun g' w'=>∃e fr,g'=G fr cs∧(∃m l,e= .returned (.tuple #[m,l])∧R m l w')∧fr.fn=78∧fr.leaving Tryz.prog w' e)
    (G ((base 78).at ⟨#[.pointer (some ⟨O,0,none⟩),u1,vg,vf,u4,u5,u6,u7,u8,u9,u10,u11,u12,u13,u14,u15,u16,u17,u18,u19,u20,u21,u22,u23,u24,u25,u26,u27,u28,u29,u30],[]⟩ [.code (aM Tryz.f78.body),.inLoop (aM Tryz.f78.body),.inBlock 0]) cs) w:=by
 intro u
 induction u with
 | nil=>
  intro gs fs w s r vg vf u1 u4 u5 u6 u7 u8 u9 u10 u11 u12 u13 u14 u15 u16 u17 u18 u19 u20 u21 u22 u23 u24 u25 u26 u27 u28 u29 u30 o q hz X;have hc:w.cell? ⟨O,9,none⟩=some (.chan (some ch)):=(World.cell?_of_block (o.chg.block O (aA i) a2)).trans i;simp only [List.map_nil] at q;refine LoneTo.goes (n:=30) ?_;simp only [aM,Tryz.f78]
  s_c stepG_block
  s_c stepG_seq
  s_reg
  s_op
  s_op
  s_op
  s_op
  s_c stepG_region_end
  s_c stepG_seq
  s_reg
  s_stop
  refine LoneTo.step (step_lone_select_default (c:=ch) (z:= .agg #[.int .i64 0,.bool false]) (stepG_comm (cases:=#[rcase ch (.agg #[.int .i64 0,.bool false])]) (blocking:=false) (shape:= .select) (w':=w) rfl rfl (by decide) (by simp [go_sem,rcase,Act.eval,execOp])) q) ?_;rw [Frame.finish_at]
  walk_nrm
  refine LoneTo.goes (n:=20) ?_
  s_op
  s_op
  s_c stepG_region_end
  s_c stepG_block
  s_cond false
  s_c stepG_seq
  s_reg
  s_op
  s_stop
  refine LoneTo.step (step_solo_go rfl (stepG_enter (f:=94) (args:=#[vg]) (w':=w) rfl rfl (by decide) (by simp [go_sem,Act.eval,execOp]))) ?_;refine wV (wj _ vg gs w o.rg (by omega)) (fun _ _ h=>by cases h.1) (fun _ h=>by cases h.1) fun v I V=>?_;obtain ⟨_,r1,J⟩:=V;rw [Frame.finish_at]
  walk_nrm
  refine LoneTo.goes (n:=20) ?_
  s_c stepG_region_end
  s_c stepG_seq
  s_reg
  s_op
  s_stop
  refine LoneTo.step (step_solo_go rfl (stepG_enter (f:=94) (args:=#[vf]) (w':=I) rfl rfl (by decide) (by simp [go_sem,Act.eval,execOp]))) ?_;refine wV (wj _ vf fs I (br o.rf J (fun k e e2=>o.ap k e2 e)) (by omega)) (fun _ _ h=>by cases h.1) (fun _ h=>by cases h.1) fun v2 d W=>?_;obtain ⟨_,r2,T⟩:=W;have a1:=o.chg.size;have ng:∀k,k < w0.heap.size→¬vg.ownBlock=some k:=fun k hk e=>by have:=(o.rg.lt k e).1;omega
  have nf:∀k,k < w0.heap.size→¬vf.ownBlock=some k:=fun k hk e=>by have:=(o.rf.lt k e).1;omega
  have a4:=J.size
  have Y:R vg vf d:=by
   refine X d vg vf (lN gs) (lN fs) ⟨⟨Nat.le_trans a1 (Nat.le_trans a4 T.size),fun k hk hn=>(T.block k (by omega) (nf k hk)).trans ((J.block k (by omega) (ng k hk)).trans (o.chg.block k hk hn)),(o.chg.still.trans J.still).trans T.still⟩,?_,?_,o.ap⟩ (by simp) (by simp) ⟨s,r,?_⟩
   ·rw [show (lN gs).length=gs.length from List.length_mergeSort _];exact br r1 T (fun k e e2=>o.ap k e e2)
   ·rw [show (lN fs).length=fs.length from List.length_mergeSort _];exact r2
   ·rw [T.block ch (by omega) (nf ch a),J.block ch (by omega) (ng ch a)];simpa using q
  clear X o q hc J T r1 r2;rw [Frame.finish_at]
  walk_nrm
  refine LoneTo.goes (n:=20) ?_
  s_c stepG_region_end
  s_c stepG_seq
  s_reg
  s_op
  s_op
  s_op
  s_op
  s_c stepG_region_end
  s_c stepG_ret'
  s_stop
  exact LoneTo.done ⟨.returned (.tuple #[vg,vf]),_,rfl,⟨vg,vf,rfl,Y⟩,rfl,rfl,rfl,rfl,_,Tryz.func78,by simp [results,Tryz.f78,Frame.at]⟩
 | cons x u ih=>
  intro gs fs w s r vg vf u1 u4 u5 u6 u7 u8 u9 u10 u11 u12 u13 u14 u15 u16 u17 u18 u19 u20 u21 u22 u23 u24 u25 u26 u27 u28 u29 u30 o q hz X;have hc:w.cell? ⟨O,9,none⟩=some (.chan (some ch)):=(World.cell?_of_block (o.chg.block O (aA i) a2)).trans i;obtain ⟨P,b⟩:=x;have Z:((((P,b)::u).map cR).toArray).extract 1 ((((P,b)::u).map cR).toArray).size=(u.map cR).toArray:=by simp [List.take_of_length_le]
  have a0:((((P,b)::u).map cR).toArray).getD 0 undef= .agg #[.int .i64 (P:Int),.bool b]:=by simp [cR]
  have a1:=o.chg.size;have K:ch < w.heap.size:=by omega
  simp only [List.length_cons] at hz;refine LoneTo.goes (n:=30) ?_;simp only [aM,Tryz.f78]
  s_c stepG_block
  s_c stepG_seq
  s_reg
  s_op
  s_op
  s_op
  s_op
  s_c stepG_region_end
  s_c stepG_seq
  s_reg
  s_stop
  refine LoneTo.step (step_lone_select_recv_buf (c:=ch) (z:= .agg #[.int .i64 0,.bool false]) (stepG_comm (cases:=#[rcase ch (.agg #[.int .i64 0,.bool false])]) (blocking:=false) (shape:= .select) (w':=w) rfl rfl (by decide) (by simp [go_sem,rcase,Act.eval,execOp])) q (by simp)) ?_;rw [Z,a0];rw [Frame.finish_at]
  walk_nrm
  have E:=heap_setChan w ch C (u.map cR).toArray false s (r+1) false K;have J:aF (fun j=>j=ch) w (w.setChan ch C (u.map cR).toArray false s (r+1) false):=⟨by simp [World.setChan],fun j hj hn=>by simp [World.setChan,Array.getElem?_setIfInBounds_ne (Ne.symm hn)],⟨rfl,rfl,rfl⟩⟩
  obtain ⟨I,a3⟩:∃I,w.setChan ch C (u.map cR).toArray false s (r+1) false=I:=⟨_,rfl⟩;rw [a3] at E J ⊢;have S1:=o.keep J a;clear a3 hc q Z a0 K o J;refine LoneTo.goes (n:=40) ?_
  s_op
  s_op
  s_c stepG_region_end
  s_c stepG_block
  s_cond true
  s_c stepG_seq
  s_reg
  s_op
  s_op
  s_op
  s_c stepG_region_end
  s_c stepG_seq
  have X2:=heap_alloc_new I (.cells #[.int .i64 (P:Int),.bool b] 201);obtain ⟨d,N⟩:∃d:World,I.alloc (.cells #[.int .i64 (P:Int),.bool b] 201)=d:=⟨_,rfl⟩;have B2:Below I.heap.size I d:=by rw [←N];exact (Below.refl _ _).alloc (Nat.le_refl _) _
  rw [N] at X2 ⊢;have S2:=S1.keep (aF.below B2) a;have y:=ae B2 E;have p0:d.cell? ⟨I.heap.size,0,none⟩=some (.int .i64 (P:Int)):=by rw [Lib.cell_of_heap X2];rfl
  have p1:d.cell? ⟨I.heap.size,1,none⟩=some (.bool b):=by rw [Lib.cell_of_heap X2];rfl
  clear S1 X2 N E
  s_reg
  s_op
  s_op
  s_c stepG_region_end
  cases b with
  | true=>
   s_cond true
   s_reg
   s_op
   s_op
   s_op
   s_op
   s_stop
   have M:=heap_alloc_new d (.cells #[.int .i64 (P:Int)] 3);obtain ⟨Q,t⟩:∃Q:World,d.alloc (.cells #[.int .i64 (P:Int)] 3)=Q:=⟨_,rfl⟩;have L:Below d.heap.size d Q:=by rw [←t];exact (Below.refl _ _).alloc (Nat.le_refl _) _
   rw [t] at M ⊢;obtain ⟨g,U,S,H,S4,D⟩:=(S2.keep (aF.below L) a).plus a P d.heap.size M (by omega);have F:=D.trans (ae L y);refine LoneTo.step (step_solo_go rfl (stepG_value (v:= .slice (some ⟨g,0,none⟩) (gs.length+1) U) (w':=S) rfl rfl (by decide) (qq (.tmp 21) (.tmp 24) 28 rfl vg (.slice (some ⟨d.heap.size,0,none⟩) 1 1) _ S rfl rfl H))) ?_
   walk_nrm
   have p:=ih (gs++[P]) fs S s (r+1) (.slice (some ⟨g,0,none⟩) (gs.length+1) U) vf;simp only [aM,Tryz.f78] at p;clear ih H M t L S2 y p0 p1 D B2;refine LoneTo.goes (n:=20) ?_
   s_op
   s_c stepG_region_end
   s_c stepG_inBlock
   s_c stepG_inBlock
   s_c stepG_inLoop
   s_stop
   exact p _ _ _ _ _ _ _ _ _ _ _ _ _ _ _ _ _ _ _ _ _ _ _ _ _ _ _ _ S4 F (by rw [List.length_append];simp only [List.length_cons,List.length_nil];omega) (fun w' m l B A V W h3 h4=>X w' m l B A V (by rw [W];simp) (by rw [h3];simp) h4)
  | false=>
   s_cond false
   s_reg
   s_op
   s_op
   s_op
   s_op
   s_stop
   have M:=heap_alloc_new d (.cells #[.int .i64 (P:Int)] 3);obtain ⟨Q,t⟩:∃Q:World,d.alloc (.cells #[.int .i64 (P:Int)] 3)=Q:=⟨_,rfl⟩;have L:Below d.heap.size d Q:=by rw [←t];exact (Below.refl _ _).alloc (Nat.le_refl _) _
   rw [t] at M ⊢;obtain ⟨g,U,S,H,S4,D⟩:=(S2.keep (aF.below L) a).swap.plus a P d.heap.size M (by omega);have F:=D.trans (ae L y);refine LoneTo.step (step_solo_go rfl (stepG_value (v:= .slice (some ⟨g,0,none⟩) (fs.length+1) U) (w':=S) rfl rfl (by decide) (qq (.tmp 26) (.tmp 29) 28 rfl vf (.slice (some ⟨d.heap.size,0,none⟩) 1 1) _ S rfl rfl H))) ?_
   walk_nrm
   have p:=ih gs (fs++[P]) S s (r+1) vg (.slice (some ⟨g,0,none⟩) (fs.length+1) U);simp only [aM,Tryz.f78] at p;clear ih H M t L S2 y p0 p1 D B2;refine LoneTo.goes (n:=20) ?_
   s_op
   s_c stepG_region_end
   s_c stepG_inBlock
   s_c stepG_inBlock
   s_c stepG_inLoop
   s_stop
   exact p _ _ _ _ _ _ _ _ _ _ _ _ _ _ _ _ _ _ _ _ _ _ _ _ _ _ _ _ S4.swap F (by rw [List.length_append];simp only [List.length_cons,List.length_nil];omega) (fun w' m l B A V W h3 h4=>X w' m l B A V (by rw [W];simp) (by rw [h3];simp) h4)
def EK (_tb ch cap:Nat) (t:aP) (w:World) (e:Ending) (w':World):Prop:=
 ∃vg vf,e= .returned (.tuple #[vg,vf])∧kc w w' ch vg vf (t.took true) (t.took false)∧∃s' r',w'.heap[ch]? =some (.chan cap #[] false s' r' false)
theorem pB (c ch a s r:Nat) (t:aP) (w:World) (j:c≠ch) (b:w.cell? ⟨c,9,none⟩=some (.chan (some ch))) (d:w.heap[ch]? =some (.chan a (t.came.map cR).toArray false s r false)) (E:t.came.length≤1000):
  Calls Tryz.prog 78 #[.pointer (some ⟨c,0,none⟩)] w (EK c ch a t w):=by
 refine calls_of_loneTo (fun q=>?_) (fun w' h=>by obtain ⟨_,_,h,_⟩:=h;cases h)
 have e:Frame.enter Tryz.prog 78 #[.pointer (some ⟨c,0,none⟩)] .normal=(base 78).at ⟨#[.pointer (some ⟨c,0,none⟩),undef,undef,undef,undef,undef,undef,undef,undef,undef,undef,undef,undef,undef,undef,undef,undef,undef,undef,undef,undef,undef,undef,undef,undef,undef,undef,undef,undef,undef,undef],[]⟩ [.code (Tryz.f78.body.getD .skip)]:=by
  simp [Frame.enter,Frame.at,Tryz.func78,base,Tryz.f78]
 rw [e];have f:=Dg c ch a w q (fun vg vf w'=>kc w w' ch vg vf (t.took true) (t.took false)∧∃G F,w'.heap[ch]? =some (.chan a #[] false G F false)) (ah d) j b t.came [] [] w s r (.slice none 0 0) (.slice none 0 0);simp only [aM,Tryz.f78] at f;clear e;refine LoneTo.goes (n:=20) ?_;simp only [Tryz.f78,Option.getD_some]
 s_c stepG_seq
 s_reg
 s_op
 s_op
 s_c stepG_region_end
 s_c stepG_block
 s_c stepG_loop
 s_stop
 obtain ⟨y,w',z,e,x,A,⟨vg,vf,B,C⟩,D⟩:=f _ _ _ _ _ _ _ _ _ _ _ _ _ _ _ _ _ _ _ _ _ _ _ _ _ _ _ _ ⟨aF.refl _ _,World.ownsRow_nil _ _ _ _,World.ownsRow_nil _ _ _ _,fun k e=>by cases e⟩ d (by simpa using E) (fun w' I H i g l m o p=>⟨by
  have u:i=t.took true:=m;have v:g=t.took false:=o;rw [←u,←v]
  exact l,p⟩)
 exact ⟨y,w',z,e,x,A,⟨vg,vf,B,C⟩,D⟩
structure np [K:Kn] (w:World) (tb ch pp pb mb:Nat) (q:Nat→Nat) (vr va vu vl:Value) (frm body:List UInt8) (cap:Nat) (S:aa) (recs:List UInt8) (t:aP) (ws:List Int) (vW:Value) (n:Int):Prop where
 talk:bM w tb ch pp pb va vu vl frm body cap false t
 bag:eJ w pb mb q vr S recs
 sok:uf (S,recs)
 live:t.i∈S.live
 ok:dL (S.stayOf t.i) t
 due:0≤(bQ S t.i).2∧(bQ S t.i).2≤1000000000000
 wai:w.cell? ⟨pp,6,none⟩=some vW
 row:aZ w vW ws.length 1 (gP ws)
 wb:1≤ws.length∧ws.length≤100∧∀x∈ws,1≤x∧x≤1000000000
 ml:w.cell? ⟨0,0,none⟩=some (.int .i64 n)
 apart:∀k,kK tb ch va vl k→¬an w pb mb q vr S k
 env:∀k,(k=pp∨k=0∨vW.ownBlock=some k)→k < w.heap.size∧¬an w pb mb q vr S k∧¬kK tb ch va vl k
def cQ (S:aa) (recs:List UInt8) (t:aP):aa×List UInt8:=kj (S,recs) t.i (t.took true) (t.took false)
def mz [Kn] (S:aa) (t:aP) (ws:List Int):Int×Int:=(S.time+j8 ws (bQ S t.i).2,(bQ S t.i).2+1)
def kN [K:Kn] (tb ch pp pb mb:Nat) (q:Nat→Nat) (vr va vu vl:Value) (frm body:List UInt8) (S:aa) (recs:List UInt8) (t:aP) (ws:List Int) (w w':World):Prop:=
 w'.heap[tb]? =some (.cells (dZ pp pb ch va vu vl frm body true t) 153 (0,0))∧(∃q' vr',@eJ (il K (cQ S recs t).1 t.i (mz S t ws)) w' pb mb q' vr' (cQ S recs t).1 (cQ S recs t).2∧∀k,an w' pb mb q' vr' (cQ S recs t).1 k→an w pb mb q vr S k∨w.heap.size≤k)∧aF (fun k=>kK tb ch va vl k∨an w pb mb q vr S k) w w'
section
variable [K:Kn] {w:World} {tb ch pp pb mb:Nat} {q:Nat→Nat} {vr va vu vl:Value} {frm body:List UInt8} {cap:Nat} {S:aa} {recs:List UInt8} {t:aP} {ws:List Int} {vW:Value} {n:Int}
theorem np.over (h:np w tb ch pp pb mb q vr va vu vl frm body cap S recs t ws vW n) {a:World} (d:w.setCell ⟨tb,10,none⟩ (.bool true)=a):
  a.heap[tb]? =some (.cells (dZ pp pb ch va vu vl frm body true t) 153 (0,0))∧aF (fun k=>k=tb) w a∧(∃s r,a.heap[ch]? =some (.chan cap (t.came.map cR).toArray false s r false))∧a.cell? ⟨tb,9,none⟩=some (.chan (some ch)):=by
 have b:aH tb w a:=by rw [←d];exact (aH.refl _ _).setCell _
 have c:a.heap[tb]? =some (.cells (dZ pp pb ch va vu vl frm body true t) 153 (0,0)):=by rw [←d];exact heap_setCell_same w tb 10 _ _ (.bool true) h.talk.blk
 obtain ⟨s,r,e⟩:=h.talk.chan;exact ⟨c,aF.same b,⟨s,r,aJ b e (Ne.symm h.talk.tc)⟩,by rw [Lib.cell_of_heap c];rfl⟩
theorem np.settle (h:np w tb ch pp pb mb q vr va vu vl frm body cap S recs t ws vW n) {A z W:World} {D C:Value} (x1:A.heap[tb]? =some (.cells (dZ pp pb ch va vu vl frm body true t) 153 (0,0))) (J:aF (fun k=>k=tb) w A) (j:kc A z ch D C (t.took true) (t.took false)) (o:Below z.heap.size z W):
  W.heap[tb]? =some (.cells (dZ pp pb ch va vu vl frm body true t) 153 (0,0))∧W.cell? ⟨pp,6,none⟩=some vW∧Calls Tryz.prog 79 #[.pointer (some ⟨pb,0,none⟩),.int .i64 ((t.i:Int)+1),D,C,vW] W fun e w'=>e= .returned (.tuple #[])∧kN tb ch pp pb mb q vr va vu vl frm body S recs t ws w w':=by
 have i:aF (fun k=>kK tb ch va vl k) w W:=((J.mono (fun _ _ e=> .inl e)).trans j.chg (fun _ _ e=> .inr (.inl e))).trans (aF.below o:aF (fun _=>False) z W) (fun _ _ e=>e.elim);have Y:tb < w.heap.size:=ah h.talk.blk;have T:ch < w.heap.size:=by obtain ⟨s,r,R⟩:=h.talk.chan;exact ah R
 have U:=J.size;have V:=j.chg.size;have X:=o.size;have G:W.heap[tb]? =some (.cells (dZ pp pb ch va vu vl frm body true t) 153 (0,0)):=ae o (j.chg.some_ x1 (fun e=>h.talk.tc e));obtain ⟨M,m⟩:=h.bag.chg i (fun k e O=>h.apart k O e);have d:∀(a:Addr),(a.block=pp∨a.block=0∨vW.ownBlock=some a.block)→W.cell? a=w.cell? a:=fun a e=>World.cell?_of_block (i.block a.block (h.env _ e).1 (h.env _ e).2.2);have hL:(S.stayOf t.i).length≤10:=dp h.sok.ok t.i;have f:∀b,∀p∈t.took b,p∈(S.stayOf t.i).map (·.1):=fun b p B=>h.ok.sub p (by unfold aP.act;exact List.mem_append.2 (.inr (wu B)));have c:∀b,∀p∈t.took b,p≤255:=fun b p B=>tI h.sok.ok t.i p (f b p B);have u:∀b,(t.took b).length≤100:=fun b=>by have:=tV h.ok b;omega
 have y:∀{v:Value} {l:List Nat},z.ownsRow A.heap.size 3 1 v l.length (aX l)→IL W pb mb q vr S v:=fun I g H=>⟨by have:=(I.lt g H).2;omega,fun e=>by have:=an.lt h.bag (m g e);have:=(I.lt g H).1;omega⟩
 refine ⟨G,(d ⟨pp,6,none⟩ (.inl rfl)).trans h.wai,?_⟩;refine (Ch pb mb q vr D C vW S recs t.i (t.took true) (t.took false) ws n W M h.sok h.live (aC (ax j.rg fun _ _ e _=>ae o e)) (aC (ax j.rf fun _ _ e _=>ae o e)) (h.row.chg i (fun g e=>(h.env g (.inr (.inr e))).2.2)) (y j.rf) (fun g e=>⟨Nat.lt_of_lt_of_le (h.env g (.inr (.inr e))).1 i.size,fun x=>(h.env g (.inr (.inr e))).2.1 (m g x)⟩) ((d ⟨0,0,none⟩ (.inr (.inl rfl))).trans h.ml) (fun x=>(h.env _ (.inr (.inl rfl))).2.1 (m _ x)) (u _) (u _) (c _) (c _) (mW (mJ h.ok _)) (mW (mJ h.ok _)) (f _) (f _) (fun p P Q=>tU h.ok P Q) h.wb.1 h.wb.2.1 h.wb.2.2 h.due.1 h.due.2).mono ?_;rintro e w3 ⟨rfl,Z,E,N,F,L⟩;refine ⟨rfl,F.some_ G (fun e=>h.apart tb (.inl rfl) (m tb e)),⟨Z,E,N,fun k e=>(L k e).elim (fun e=> .inl (m k e)) (fun e=> .inr (Nat.le_trans i.size e))⟩,(i.mono (fun _ _ e=> .inl e)).trans F (fun k _ e=> .inr (m k e))⟩
theorem Al (h:np w tb ch pp pb mb q vr va vu vl frm body cap S recs t ws vW n):
  Calls Tryz.prog 46 #[.pointer (some ⟨tb,0,none⟩)] w fun e F=>e= .returned (.tuple #[])∧kN tb ch pp pb mb q vr va vu vl frm body S recs t ws w F:=by
 have l:w.cell? ⟨tb,10,none⟩=some (.bool false):=h.talk.cell 10;have m:=h.talk.frozen 10;obtain ⟨o,a⟩:∃o:World,w.setCell ⟨tb,10,none⟩ (.bool true)=o:=⟨_,rfl⟩;obtain ⟨A,x,⟨s,r,y⟩,z⟩:=h.over a
 have v:t.came.length≤1000:=by
  have p:=h.ok.room;have O:(S.stayOf t.i).length≤10:=dp h.sok.ok t.i;unfold aP.act at p;rw [List.length_append,List.length_map] at p;omega
 have i:=Lib.hid (pB tb ch cap s r t o h.talk.tc z y v);have B:=Lib.hid h;have k:=Lib.hid A;have f:=Lib.hid x;have j:=Lib.hid a;clear h A x y z a v;go_enter Tryz.func46,Tryz.ntmps46;go_wp2_with fail
 rw [j.out];refine i.out.mono ?_;rintro e c ⟨R,Q,rfl,b,_⟩;obtain ⟨d,P,g⟩:=B.out.settle k.out f.out b ((Below.refl _ c).drew);have g:=Lib.hid g;have L:c.drew.cell? ⟨tb,0,none⟩=some (.pointer (some ⟨pp,0,none⟩)):=by rw [Lib.cell_of_heap d];rfl
 have M:c.drew.cell? ⟨tb,1,none⟩=some (.pointer (some ⟨pb,0,none⟩)):=by rw [Lib.cell_of_heap d];rfl
 have N:c.drew.cell? ⟨tb,2,none⟩=some (.int .i64 ((t.i:Int)+1)):=by rw [Lib.cell_of_heap d];rfl
 obtain ⟨H,J,E⟩:=aE (aC b.rg);obtain ⟨G,I,D⟩:=aE (aC b.rf);subst E D;clear d b l m;go_wp2_with fail
 go_region_law (first
  | (go_simp;go_at_call 79;refine g.out.mono ?_;rintro e T ⟨rfl,u⟩;have C:=Lib.hid u;clear u;dsimp only))
 all_goals
  go_wp2_with fail
  refine bodyPost_end (results_none rfl _ _ _) rfl ?_;exact ⟨rfl,C.out⟩
theorem Ez (u:FrameMode) (h:np w tb ch pp pb mb q vr va vu vl frm body cap S recs t ws vW n):
  CallsD Tryz.prog 46 #[.pointer (some ⟨tb,0,none⟩)] u w fun e u' G=>u'=u∧e= .returned (.tuple #[])∧kN tb ch pp pb mb q vr va vu vl frm body S recs t ws w G:=by
 have l:w.cell? ⟨tb,10,none⟩=some (.bool false):=h.talk.cell 10;have m:=h.talk.frozen 10;obtain ⟨o,a⟩:∃o:World,w.setCell ⟨tb,10,none⟩ (.bool true)=o:=⟨_,rfl⟩;obtain ⟨B,y,⟨s,r,z⟩,A⟩:=h.over a
 have x:t.came.length≤1000:=by
  have p:=h.ok.room;have P:(S.stayOf t.i).length≤10:=dp h.sok.ok t.i;unfold aP.act at p;rw [List.length_append,List.length_map] at p;omega
 have i:=Lib.hid (pB tb ch cap s r t o h.talk.tc A z x);have C:=Lib.hid h;have k:=Lib.hid B;have f:=Lib.hid y;have j:=Lib.hid a;clear h B y z A a x;go_enter_d Tryz.func46,Tryz.ntmps46
 go_wp2_with fail
 rw [j.out];refine i.out.mono ?_;rintro e c ⟨T,R,rfl,b,_⟩;obtain ⟨d,Q,g⟩:=C.out.settle k.out f.out b ((Below.refl _ c).drew);have g:=Lib.hid g;have M:c.drew.cell? ⟨tb,0,none⟩=some (.pointer (some ⟨pp,0,none⟩)):=by rw [Lib.cell_of_heap d];rfl
 have N:c.drew.cell? ⟨tb,1,none⟩=some (.pointer (some ⟨pb,0,none⟩)):=by rw [Lib.cell_of_heap d];rfl
 have O:c.drew.cell? ⟨tb,2,none⟩=some (.int .i64 ((t.i:Int)+1)):=by rw [Lib.cell_of_heap d];rfl
 obtain ⟨I,L,F⟩:=aE (aC b.rg);obtain ⟨H,J,E⟩:=aE (aC b.rf);subst F E;clear d b l m;go_wp2_with fail
 go_region_law (first
  | (go_simp;go_at_call 79;refine g.out.mono ?_;rintro e U ⟨rfl,v⟩;have D:=Lib.hid v;clear v;dsimp only))
 all_goals
  go_wp2_with fail
  go_end0
  exact ⟨rfl,D.out⟩
end
end Go.Proofs.YtofpegbpgkkgkaaGreatDoor
