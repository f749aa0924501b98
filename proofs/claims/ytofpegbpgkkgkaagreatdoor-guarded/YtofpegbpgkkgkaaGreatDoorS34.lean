import Derived.Test.YtofpegbpgkkgkaaGreatDoorS28
import Derived.Test.YtofpegbpgkkgkaaGreatDoorS32
import Derived.Test.YtofpegbpgkkgkaaGreatDoorS14
import Derived.Test.YtofpegbpgkkgkaaGreatDoorS17
import Derived.Conc.SmallLaws
import Derived.Lib.Join
namespace Go.Proofs.YtofpegbpgkkgkaaGreatDoor
set_option maxHeartbeats 8000000
set_option maxRecDepth 1000000
open Go.RowKit
theorem yM (a:List UInt8) (g:Bool) (m:Int) (w:World) (d:a.length≤1048576) (b:g=false→ee a) (f:w.cell? ⟨0,0,none⟩=some (.int .i64 m)):
  Calls Tryz.prog 103 #[.agg #[.string (bs a),.bool g]] w fun e t=>e= .returned (iT (bn a g))∧Below w.heap.size w t:=by
 cases g with
 | true=>exact yN a w
 | false=>
  have b:=b rfl;have e:bn a false=CK (Lib.toUpperA (bS 32 a).1) (bS 32 a).2.1 (bS 32 a).2.2:=rfl;rw [e];unfold CK
  by_cases h:Lib.toUpperA (bS 32 a).1=[81,85,73,84]
  ·rw [if_pos h];exact eZ a m w d b f h (.inl ⟨rfl,rfl⟩)
  rw [if_neg h]
  by_cases i:Lib.toUpperA (bS 32 a).1=[78,79,79,80]
  ·rw [if_pos i];exact eZ a m w d b f i (.inr (.inl ⟨rfl,rfl⟩))
  rw [if_neg i]
  by_cases j:Lib.toUpperA (bS 32 a).1=[82,83,69,84]
  ·rw [if_pos j];exact eZ a m w d b f j (.inr (.inr (.inl ⟨rfl,rfl⟩)))
  rw [if_neg j]
  by_cases k:Lib.toUpperA (bS 32 a).1=[68,65,84,65]
  ·rw [if_pos k];exact eZ a m w d b f k (.inr (.inr (.inr (.inl ⟨rfl,rfl⟩))))
  rw [if_neg k]
  by_cases l:Lib.toUpperA (bS 32 a).1=[72,69,76,79]
  ·rw [if_pos l];exact eZ a m w d b f l (.inr (.inr (.inr (.inr (.inl ⟨rfl,rfl⟩)))))
  rw [if_neg l]
  by_cases n:Lib.toUpperA (bS 32 a).1=[69,72,76,79]
  ·rw [if_pos n];exact eZ a m w d b f n (.inr (.inr (.inr (.inr (.inr (.inl ⟨rfl,rfl⟩))))))
  rw [if_neg n]
  by_cases o:Lib.toUpperA (bS 32 a).1=[65,85,84,72]
  ·rw [if_pos o];exact eZ a m w d b f o (.inr (.inr (.inr (.inr (.inr (.inr (.inl ⟨rfl,rfl⟩)))))))
  rw [if_neg o]
  by_cases p:Lib.toUpperA (bS 32 a).1=[77,65,73,76]
  ·rw [if_pos p];exact eZ a m w d b f p (.inr (.inr (.inr (.inr (.inr (.inr (.inr (.inl ⟨rfl,rfl⟩))))))))
  rw [if_neg p]
  by_cases r:Lib.toUpperA (bS 32 a).1=[82,67,80,84]
  ·rw [if_pos r];exact eZ a m w d b f r (.inr (.inr (.inr (.inr (.inr (.inr (.inr (.inr ⟨rfl,rfl⟩))))))))
  rw [if_neg r];exact wX a m w d b f (by unfold Ib;simp [h,i,j,k,l,n,o,p,r])
structure Cy (k:nj):Prop where
 verb:k.verb≤10
 name:k.name=[]∨dx k.name=true
 rcpt:k.verb=10→dx k.name=true
theorem xJ (v:Nat) (h:v≤9):Cy (qy v):=⟨by show v≤10;omega,.inl rfl,fun e=>by have e:v=10:=e;omega⟩
theorem CY (l:List UInt8):dM l=[]∨dx (dM l)=true:=by
 cases h:(iG l).2 with
 | true=>exact .inr (pI h)
 | false=>left;unfold dM;rw [h];rfl
theorem zT (b:List UInt8) (a:Bool):Cy (bn b a):=by
 unfold bn
 cases a with
 | true=>exact xJ 0 (by decide)
 | false=>
  simp only [Bool.false_eq_true,if_false];unfold CK ku mg;have d:Cy hZ:=xJ 1 (by decide)
  repeat' split
  all_goals first
   | exact d
   | exact xJ _ (by decide)
   | skip
  ·unfold qk
   split
   ·split
    ·exact ⟨show (8:Nat)≤10 by omega,.inl rfl,fun e=>by cases e⟩
    ·exact d
   ·exact d
  ·unfold te;simp only
   split
   ·exact ⟨show (9:Nat)≤10 by omega,CY _,fun e=>by cases e⟩
   ·exact d
  ·unfold tz;simp only
   split
   ·rename_i f
    rw [Bool.and_eq_true] at f;exact ⟨Nat.le_refl 10,.inr (pI f.2),fun _=>pI f.2⟩
   ·exact d
section
variable {A:Nat→Prop} {pp pb mb sb ch:Nat} {vw:Value} {q:Nat→Nat} {vr:Value} {S:aa} {recs:List UInt8} {w:World} {s:bA} {E:Nat→Prop} {c:bT}
theorem FZ (h:cC w A pp pb sb ch vw [] s) (g:fO E w pp c) (f:∀k,E k→¬A k) (k:nj) (n:k.verb≤10) (m:k.name.length≤1048576) (j:∀t,s.tx=some t→t.body=none∧t.tos.length≤10):
  Calls Tryz.prog 102 #[.pointer (some ⟨sb,0,none⟩),iT k] w (cG A pp pb sb ch vw w (bt c s k).1 (bt c s k).2):=by
 obtain ⟨v,b,d,a⟩:=k;simp only at n m;unfold iT bt;simp only
 cases e:fC s v with
 | false=>
  simp only [if_true];exact BQ h g f b a d v e
 | true=>
  simp only [Bool.true_eq_false,if_false];have l:v=0∨v=1∨v=2∨v=3∨v=4∨v=5∨v=6∨v=7∨v=8∨v=9∨v=10:=by omega
  rcases l with rfl | rfl | rfl | rfl | rfl | rfl | rfl | rfl | rfl | rfl | rfl
  ·exact gh h g f b a d rfl e (.inl ⟨rfl,rfl,rfl⟩)
  ·exact gh h g f b a d rfl e (.inr (.inl ⟨rfl,rfl,rfl⟩))
  ·exact gh h g f b a d rfl e (.inr (.inr (.inl ⟨rfl,rfl,rfl⟩)))
  ·exact gh h g f b a d rfl e (.inr (.inr (.inr (.inl ⟨rfl,rfl,rfl⟩))))
  ·exact gh h g f b a d rfl e (.inr (.inr (.inr (.inr (.inl ⟨rfl,rfl,rfl⟩)))))
  ·cases i:s.tx with
   | none=>rw [show fC s 5=false by unfold fC i7;rw [i];rfl] at e;cases e
   | some t=>exact gh h g f b a d rfl e (.inr (.inr (.inr (.inr (.inr (.inl ⟨_,i,rfl,rfl,rfl⟩))))))
  ·exact gh h g f b a d rfl e (.inr (.inr (.inr (.inr (.inr (.inr (.inl ⟨rfl,rfl,rfl⟩)))))))
  ·exact gh h g f b a d rfl e (.inr (.inr (.inr (.inr (.inr (.inr (.inr (.inl ⟨rfl,rfl,rfl⟩))))))))
  ·exact gh h g f b a d rfl e (.inr (.inr (.inr (.inr (.inr (.inr (.inr (.inr (.inl ⟨rfl,rfl,rfl⟩)))))))))
  ·exact gh h g f b a d rfl e (.inr (.inr (.inr (.inr (.inr (.inr (.inr (.inr (.inr (.inl ⟨rfl,rfl,rfl⟩))))))))))
  ·cases i:s.tx with
   | none=>rw [show fC s 10=false by unfold fC i7;rw [i];rfl] at e;cases e
   | some t=>exact gh h g f b a d rfl e (.inr (.inr (.inr (.inr (.inr (.inr (.inr (.inr (.inr (.inr ⟨_,i,(j t i).1,m,(j t i).2,rfl,rfl,rfl⟩))))))))))
theorem DC [Kn] (h:cC w A pp pb sb ch vw [] s) (r:fO E w pp c) (f:eJ w pb mb q vr S recs) (x:nM S recs) {t:mN} (u:s.tx=some t) (j:ug t) {b:dV} (p:t.body=some b) (g:∀k,A k→¬an w pb mb q vr S k) (m:∀k,E k→¬an w pb mb q vr S k) (i:∀k,E k→¬A k) (a:List UInt8) (d:Bool) (n:a.length≤1048576):
  Calls Tryz.prog 101 #[.pointer (some ⟨sb,0,none⟩),.agg #[.string (bs a),.bool d]] w fun e v=>e= .returned (.tuple #[])∧fX A pp pb mb sb ch vw q vr S w (dr c s S recs t b a d).1 (dr c s S recs t b a d).2.1 (dr c s S recs t b a d).2.2.1 (dr c s S recs t b a d).2.2.2 v:=by
 unfold dr
 by_cases l:a=[46]
 ·subst l;simp only [if_true];exact DD h r f x u j p g m i d
 ·simp only [l,if_false];refine (Dz h r u j p a d l n).mono ?_;intro e v o;exact ⟨o.1,fX.step f g o⟩
end
def aO (c:bT) (s:bA) (S:aa) (recs:List UInt8) (text:List UInt8) (bad:Bool):bA×aa×List UInt8×List (List UInt8):=
 match s.tx with
 | some t=>(match t.body with
  | some b=>dr c s S recs t b text bad
  | none=>((bt c s (bn text bad)).1,S,recs,(bt c s (bn text bad)).2))
 | none=>((bt c s (bn text bad)).1,S,recs,(bt c s (bn text bad)).2)
section
variable {E:Nat→Prop} {pp pb mb sb ch bl:Nat} {c:bT} {w:World} {A:Nat→Prop} {q:Nat→Nat} {vr:Value} {S:aa} {recs:List UInt8} {vw v:Value} {acc:List UInt8} {ls:List (List UInt8)} {s:bA}
theorem ft.take_d [Kn] (h:ft E pp pb mb sb ch bl c w A q vr S recs vw v acc ls s) (hl:∀l∈ls,l.length≤1048576) (u:FrameMode) (L:acc.length+ls.flatten.length≤140737488355328):
  CallsD Tryz.prog 63 #[.pointer (some ⟨sb,0,none⟩),.pointer (some ⟨bl,0,none⟩)] u w fun e u' B=>u'=u∧e= .returned (.tuple #[])∧∃d,ft E pp pb mb sb ch bl c B A q vr S recs vw d (acc++ls.flatten) [] s∧aF (fun k=>k=ch∨k=bl∨v.ownBlock=some k) w B∧(∀k,an B pb mb q vr S k→an w pb mb q vr S k)∧∀g,d.ownBlock=some g→v.ownBlock=some g∨w.heap.size≤g:=by
 obtain ⟨vx,I,hx⟩:=h.ses.ex;obtain ⟨sq,r,G⟩:=I.chan;have C:ch≠bl:=fun e=>h.ld.2.1 (by rw [←e];exact h.ses.ach)
 have P:¬(sb=ch∨sb=bl∨v.ownBlock=some sb):=fun x=>by
  rcases x with x | x | x
  ·exact I.ne x
  ·exact h.ld.2.1 (by rw [←x];exact h.ses.asb)
  ·exact (h.vd sb x).2.1 h.ses.asb
 let Bd:List UInt8→World→Prop:=fun a B=>∃d,jb 0 B bl d a∧(∀g,d.ownBlock=some g→v.ownBlock=some g∨w.heap.size≤g)∧aF (fun k=>k=ch∨k=bl∨v.ownBlock=some k) w B∧∃j y t,B.heap[ch]? =some (.chan 3 j false y t false)
 have R:=tQ Bd sb ch sq r false (.pointer (some ⟨bl,0,none⟩)) ls acc u w ?_ ?_ ?_ ⟨v,h.bld,fun g e=> .inl e,aF.refl _ _,_,_,_,G⟩ G hl L
 ·refine R.mono ?_;rintro e u' B ⟨rfl,rfl,y,t,⟨d,n,p,i,_⟩,b⟩;obtain ⟨x1,x2⟩:=h.told i p n b;exact ⟨rfl,rfl,d,x1,i,x2,p⟩
 ·rintro a l W ⟨d,n,p,i,j,y,t,b⟩ _ H
  have m:d.ownBlock≠some ch:=fun e=>by
   obtain ⟨J,z,F⟩:=gi n.row e;rw [b] at F;cases F
  refine (qM 0 bl d a l W n (Nat.zero_le _) H).mono ?_;rintro e T ⟨⟨rv,rfl⟩,⟨v2,X,Y⟩,K,Z,Q⟩
  have M:aF (fun k=>k=bl∨d.ownBlock=some k) W T:=⟨Q,fun k D V=>by
   rw [Array.getElem?_eq_getElem D]
   exact K k _ (Array.getElem?_eq_getElem D) (fun e=>V (.inl e)) (fun e=>V (.inr e)),Z⟩
  refine ⟨⟨rv,rfl⟩,⟨v2,X,fun g N=>(Y g N).elim (p g) (fun e=> .inr (Nat.le_trans i.size e)),i.trans M (fun k D e=>e.elim (fun e=> .inr (.inl e)) (fun e=>(p k e).elim (fun e=> .inr (.inr e)) (fun e=>absurd D (by omega)))),j,y,t,K ch _ b C m⟩,fun o ho=>K ch o ho C m⟩
 ·rintro a W ⟨d,n,p,i,_⟩;rw [Lib.cell_of_heap (i.some_ I.blk P)];exact I.told
 ·rintro a W j f y t ⟨d,n,p,i,_⟩ b;have O:ch < W.heap.size:=ah b;have U:aH ch W (W.setChan ch 3 f false y (t+1) false):=⟨by simp [World.setChan],fun k D=>by simp [World.setChan,Array.getElem?_setIfInBounds_ne (Ne.symm D)],⟨rfl,rfl,rfl⟩⟩
  have m:d.ownBlock≠some ch:=fun e=>by
   obtain ⟨J,z,F⟩:=gi n.row e;rw [b] at F;cases F
  refine ⟨d,jI n (aF.same U) (fun e=>C e.symm) (fun g N e=>m (by rw [←e];exact N)),p,i.trans (aF.same U) (fun _ _ e=> .inl e),f,y,t+1,Conc.heap_setChan W ch 3 f false y (t+1) false O⟩
def mM [Kn] (E A:Nat→Prop) (pp pb mb sb ch bl:Nat) (c:bT) (q:Nat→Nat) (vr:Value) (S:aa) (vw v:Value) (w:World) (s':bA) (S':aa) (recs' acc':List UInt8) (w':World):Prop:=
 ∃A' q' vr' vw' v',ft E pp pb mb sb ch bl c w' A' q' vr' S' recs' vw' v' acc' [] s'∧(∀k,sH w' pb mb bl A' q' vr' S' vw' v' k→sH w pb mb bl A q vr S vw v k∨w.heap.size≤k)∧aF (sH w pb mb bl A q vr S vw v) w w'
theorem vG [Kn] {j o p:World} {r:Nat→Prop} {n:Nat→Nat} {d u:Value} {l:aa} {b f:List UInt8} {y:bA} (h:ft E pp pb mb sb ch bl c w A q vr S recs vw v acc [] s) (m:Below w.heap.size w j)
  (x:aF (fun k=>A k∨an j pb mb q vr S k) j o) (z:∀k,r k→A k∨j.heap.size≤k) (t:∀k,an o pb mb n d l k→an j pb mb q vr S k∨j.heap.size≤k) (B:ft E pp pb mb sb ch bl c p r n d l b vw u f [] y) (C:aF (fun k=>k=ch∨k=bl∨v.ownBlock=some k) o p) (D:∀k,an p pb mb n d l k→an o pb mb n d l k) (F:∀g,u.ownBlock=some g→v.ownBlock=some g∨o.heap.size≤g):mM E A pp pb mb sb ch bl c q vr S vw v w y l b f p:=by
 have i:∀k,an j pb mb q vr S k→an w pb mb q vr S k:=fun k e=>e.imp (fun e=>cI h.bag.inn m e) id;refine ⟨r,n,d,vw,u,B,fun k a=>?_,(((aF.below m:aF (sH w pb mb bl A q vr S vw v) w j)).trans x (fun k _ e=>e.imp id (fun e=> .inl (i k e)))).trans C (fun k _ e=>?_)⟩
 ·rcases a with a | a | a | a | a
  ·exact (z k a).imp .inl (fun e=>Nat.le_trans m.size e)
  ·exact (t k (D k a)).imp (fun e=> .inr (.inl (i k e))) (fun e=>Nat.le_trans m.size e)
  ·exact .inl (.inr (.inr (.inl a)))
  ·exact (F k a).imp (fun e=> .inr (.inr (.inr (.inl e)))) (fun e=>Nat.le_trans (Nat.le_trans m.size x.size) e)
  ·exact .inl (.inr (.inr (.inr (.inr a))))
 ·rcases e with e | e | e
  ·exact .inl (by rw [e];exact h.ses.ach)
  ·exact .inr (.inr (.inl e))
  ·exact .inr (.inr (.inr (.inl e)))
theorem Bp [Kn] (h:ft E pp pb mb sb ch bl c w A q vr S recs vw v acc [] s) (Z:nM S recs) {t:mN} (P:s.tx=some t) (G:ug t) {b:dV} (O:t.body=some b) (a:List UInt8) (d:Bool) (F:a.length≤1048576) (m:∀l∈(dr c s S recs t b a d).2.2.2,l.length≤1000) (a0:(dr c s S recs t b a d).2.2.2.flatten.length≤3000) (X:acc.length≤1099511627776) (n:(dr c s S recs t b a d).1.wait=s.wait):
  Calls Tryz.prog 67 #[.pointer (some ⟨sb,0,none⟩),.agg #[.string (bs a),.bool d],.pointer (some ⟨bl,0,none⟩)] w fun e w'=>e= .returned (.tuple #[])∧mM E A pp pb mb sb ch bl c q vr S vw v w (dr c s S recs t b a d).1 (dr c s S recs t b a d).2.1 (dr c s S recs t b a d).2.2.1 (acc++(dr c s S recs t b a d).2.2.2.flatten) w':=by
 obtain ⟨vx,J,K⟩:=h.ses.ex;rw [P] at K;obtain ⟨H,vt,vb,rfl,ha,N,hO,L⟩:=K;rw [O] at L;obtain ⟨I,vy,rfl,Y,B,W⟩:=L;obtain ⟨g,k⟩:∃g:World,w.alloc (.cells #[.string (bs a),.bool d] 138)=g:=⟨_,rfl⟩;have j:Below w.heap.size w g:=by rw [←k];exact (Below.refl _ _).alloc (Nat.le_refl _) _
 have z:g.heap[w.heap.size]? =some (.cells #[.string (bs a),.bool d] 138 (0,0)):=by rw [←k];exact heap_alloc_new w _
 have l0:g.cell? ⟨w.heap.size,0,none⟩=some (.string (bs a)):=by rw [Lib.cell_of_heap z];rfl
 have l1:g.cell? ⟨w.heap.size,1,none⟩=some (.bool d):=by rw [Lib.cell_of_heap z];rfl
 have c8:g.cell? ⟨sb,8,none⟩=some (.pointer (some ⟨H,0,none⟩)):=(J.below j).cell 8;have t2:g.cell? ⟨H,2,none⟩=some (.pointer (some ⟨I,0,none⟩)):=by rw [Lib.cell_of_heap (ae j N.blk)];rfl
 have i:=h.below j;have r:=Lib.hid (zn H I g t2);have u:=Lib.hid (DC i.ses i.env i.bag Z P G O i.ab i.eb i.ea a d F);have Q:=Lib.hid h;have p:=Lib.hid i;have o:=Lib.hid j;have x:=Lib.hid m;have y:=Lib.hid n;clear h J N B i j z m n;go_enter_defers Tryz.func67,Tryz.ntmps67
 go_wp2_with fail
 refine r.out.mono ?_;rintro e w1 ⟨rfl,rfl⟩;go_wp2_with fail
 refine u.out.mono ?_;rintro e w2 ⟨rfl,M⟩;have R:=Lib.hid M;clear M;go_wp2_with fail
 refine leaves_cons (f:=63) (args:=#[.pointer (some ⟨sb,0,none⟩),.pointer (some ⟨bl,0,none⟩)]) (by simp) (by simp [go_sem]) ?_;obtain ⟨A1,q1,a1,C,g1,g2,g3⟩:=p.out.line R.out y.out;refine (C.take_d (fun l hl=>by have:=x.out l hl;omega) .returning (by omega)).mono ?_;rintro e u' w3 ⟨rfl,rfl,v3,D,T,U,V⟩;exact ⟨_,results_none rfl _ _ _,rfl,vG Q.out o.out g3 g1 g2 D T U V⟩
theorem vF [Kn] (h:ft E pp pb mb sb ch bl c w A q vr S recs vw v acc [] s) (u:∀t,s.tx=some t→t.body=none∧t.tos.length≤10) (a:List UInt8) (b:Bool) (Z:a.length≤1048576) (K:b=false→ee a) (J:∀l∈(bt c s (bn a b)).2,l.length≤1000) (Y:(bt c s (bn a b)).2.flatten.length≤3000) (a0:acc.length≤1099511627776) (L:(bt c s (bn a b)).1.wait=s.wait):
  Calls Tryz.prog 67 #[.pointer (some ⟨sb,0,none⟩),.agg #[.string (bs a),.bool b],.pointer (some ⟨bl,0,none⟩)] w fun e w'=>e= .returned (.tuple #[])∧mM E A pp pb mb sb ch bl c q vr S vw v w (bt c s (bn a b)).1 S recs (acc++(bt c s (bn a b)).2.flatten) w':=by
 obtain ⟨g,G⟩:∃g:World,w.alloc (.cells #[.string (bs a),.bool b] 138)=g:=⟨_,rfl⟩;have O:Below w.heap.size w g:=by rw [←G];exact (Below.refl _ _).alloc (Nat.le_refl _) _
 have R:g.heap[w.heap.size]? =some (.cells #[.string (bs a),.bool b] 138 (0,0)):=by rw [←G];exact heap_alloc_new w _
 have l0:g.cell? ⟨w.heap.size,0,none⟩=some (.string (bs a)):=by rw [Lib.cell_of_heap R];rfl
 have l1:g.cell? ⟨w.heap.size,1,none⟩=some (.bool b):=by rw [Lib.cell_of_heap R];rfl
 have n:=h.below O;obtain ⟨N,h1,d⟩:=n.ses.ex;have c8:g.cell? ⟨sb,8,none⟩=some N:=h1.cell 8;obtain ⟨m,hm⟩:=n.env.len
 have Q:Hid (Calls Tryz.prog 100 #[N] g fun e w'=>e= .returned (.bool false)∧g=w'):=Lib.hid (by
  cases x:s.tx with
  | none=>
   rw [x] at d;have d:N= .pointer none:=d;subst d;exact xx g
  | some t=>
   rw [x] at d;obtain ⟨tb,vt,vb,rfl,ha,hT,hO,M⟩:=d;rw [(u t x).1] at M;have M:vb= .pointer none:=M;subst M
   exact Bn tb g (by rw [Lib.cell_of_heap hT.blk];rfl))
 obtain ⟨px,T⟩:∃p,N= .pointer p:=by
  cases x:s.tx with
  | none=>rw [x] at d;exact ⟨none,d⟩
  | some t=>rw [x] at d;obtain ⟨tb,vt,vb,e,_⟩:=d;exact ⟨_,e⟩
 subst T;have j:=Lib.hid (yM a b m g Z K hm);have r:=zT a b
 have I:(bn a b).name.length≤1048576:=by
  rcases r.name with e | e
  ·rw [e];simp
  ·have:=mh e;omega
 have i:Hid (∀W:World,Below g.heap.size g W→Calls Tryz.prog 102 #[.pointer (some ⟨sb,0,none⟩),iT (bn a b)] W (cG A pp pb sb ch vw W (bt c s (bn a b)).1 (bt c s (bn a b)).2)):=Lib.hid (fun W hb=>FZ (n.ses.below hb) (n.env.below hb) n.ea (bn a b) r.verb I u);have HH:=Lib.hid h;have P:=Lib.hid n;have y:=Lib.hid O;have C:=Lib.hid J;have D:=Lib.hid L;obtain ⟨kx,F⟩:∃k,bn a b=k:=⟨_,rfl⟩;rw [F] at j i C D Y ⊢;simp only [iT] at j i;clear h h1 d n O R J L hm r I K u F;go_enter_defers Tryz.func67,Tryz.ntmps67
 go_wp2_with fail
 refine Q.out.mono ?_;rintro e w1 ⟨rfl,rfl⟩;go_wp2_with fail
 refine j.out.mono ?_;rintro e w2 ⟨rfl,o⟩;have z:=Lib.hid o;have B:=Lib.hid (i.out w2 o);clear o i;go_wp2_with fail
 refine B.out.mono ?_;rintro e w3 U;have hr:=U.ret;subst hr;have HP:=Lib.hid U;clear U B;go_wp2_with fail
 refine leaves_cons (f:=63) (args:=#[.pointer (some ⟨sb,0,none⟩),.pointer (some ⟨bl,0,none⟩)]) (by simp) (by simp [go_sem]) ?_;have d:=P.out.below z.out;obtain ⟨A1,q1,a1,V,g1,g2,g3⟩:=d.line (fX.step d.bag d.ab HP.out) D.out;refine (V.take_d (fun l hl=>by have:=C.out l hl;omega) .returning (by omega)).mono ?_;rintro e u' w4 ⟨rfl,rfl,v4,X,g4,g5,g6⟩;have H:Below w.heap.size w w2:=y.out.trans (z.out.mono y.out.size);exact ⟨_,results_none rfl _ _ _,rfl,vG HH.out H g3 g1 g2 X g4 g5 g6⟩
end
structure iv (c:bT) (s:bA) (S:aa) (recs:List UInt8):Prop where
 tx:∀t,s.tx=some t→ug t∧(t.tos.length:Int)≤c.most
 time:S.time≤1000000000
 len:yq S recs
 recs:S.Ok
 wait:s.wait.length≤102
theorem iv.keep {c:bT} {s:bA} {S:aa} {a:List UInt8} (h:iv c s S a):nM S a:=⟨h.time,by have:=h.len.items;omega,by have:=h.len.len;omega⟩
theorem iv.none {c:bT} {s s':bA} {S:aa} {a:List UInt8} (h:iv c s S a) (b:s'.tx=none) (d:s'.wait=s.wait):iv c s' S a:=⟨(fun t e=>by rw [b] at e;cases e),h.time,h.len,h.recs,by rw [d];exact h.wait⟩
theorem iv.same {c:bT} {s b:bA} {S:aa} {a:List UInt8} (h:iv c s S a) (d:b.tx=s.tx) (f:b.wait=s.wait):iv c b S a:=⟨fun t e=>h.tx t (by rw [←d];exact e),h.time,h.len,h.recs,by rw [f];exact h.wait⟩
def qj (ls:List (List UInt8)):Prop:=(∀l∈ls,l.length≤1000)∧ls.flatten.length≤3000
theorem cV {l:List UInt8} (h:l.length≤1000):qj [l]:=⟨fun x a=>by simp at a;rw [a];exact h,by simp;omega⟩
theorem Ep:qj []:=⟨(fun x a=>by cases a),by simp⟩
theorem zs {n:Int} (a:0≤n) (h:n≤4294967295):(Lib.itoa n).length≤10:=by
 unfold Lib.itoa;rw [if_neg (by omega)];exact kq _ 9 (by omega)
theorem zp {c:bT} (h:iL c=true):(cL c).length≤255:=by
 have:=(jQ h).host;have e:=aI (cL c);rw [rz] at e;omega
theorem BN {l:List (List UInt8)} {x:List UInt8} (h:l.Nodup) (d:l.contains x=false):(l++[x]).Nodup:=by
 rw [List.nodup_append];refine ⟨h,by simp,fun a f b c e=>?_⟩
 simp at c;subst c;subst e;have:=List.contains_iff_mem.2 f;rw [this] at d
 cases d
theorem BX (d:List (List UInt8)) (a:Int) (c:Bool) (b:List UInt8):qj [cz d a c b]:=by
 apply cV;unfold cz
 split
 ·decide
 ·split
  ·decide
  ·split <;> decide
theorem Hm {t:mN} {c:Int} (m:c≤10) (f:Bool) {a:List UInt8} (h:ug t) (i:(t.tos.length:Int)≤c) (k:dx a=true) (g:t.body=none):ug {t with tos:=dj t.tos c f a}∧((dj t.tos c f a).length:Int)≤c:=by
 unfold dj
 split
 ·exact ⟨⟨h.frm,h.tos,h.one,h.most,fun b e=>by rw [show ({t with tos:=t.tos}:mN).body=t.body from rfl,g] at e;cases e⟩,i⟩
 ·rename_i j
  split
  ·exact ⟨⟨h.frm,h.tos,h.one,h.most,fun b e=>by rw [show ({t with tos:=t.tos}:mN).body=t.body from rfl,g] at e;cases e⟩,i⟩
  ·rename_i l
   split
   ·refine ⟨⟨h.frm,fun x d=>?_,BN h.one (by simpa using j),?_,fun b e=>by rw [show ({t with tos:=t.tos++[a]}:mN).body=t.body from rfl,g] at e;cases e⟩,?_⟩
    ·have d:x∈t.tos++[a]:=d;rw [List.mem_append] at d
     rcases d with d | d
     ·exact h.tos x d
     ·simp at d;rw [d];exact k
    ·show (t.tos++[a]).length≤10;rw [List.length_append];simp only [List.length_cons,List.length_nil];omega
    ·rw [List.length_append];simp only [List.length_cons,List.length_nil];omega
   ·exact ⟨⟨h.frm,h.tos,h.one,h.most,fun b e=>by rw [show ({t with tos:=t.tos}:mN).body=t.body from rfl,g] at e;cases e⟩,i⟩
theorem D5 {c:bT} {s:bA} {S:aa} {d:List UInt8} (u:iL c=true) (h:iv c s S d) (k:nj) (o:Cy k) (q:∀t,s.tx=some t→t.body=none):iv c (bt c s k).1 S d∧(bt c s k).1.wait=s.wait∧qj (bt c s k).2:=by
 have D:=mu u;have B:=zp u;have C:=zs (n:=c.size) (by omega) (by omega);obtain ⟨v,f,g,a⟩:=k;have r:v=0∨v=1∨v=2∨v=3∨v=4∨v=5∨v=6∨v=7∨v=8∨v=9∨v=10:=by have:=o.verb;simp only at this;omega
 unfold bt;simp only
 cases i:fC s v with
 | false=>exact ⟨h,rfl,cV (by decide)⟩
 | true=>
  simp only [Bool.true_eq_false,if_false]
  rcases r with rfl | rfl | rfl | rfl | rfl | rfl | rfl | rfl | rfl | rfl | rfl
  ·exact ⟨h,rfl,cV (by decide)⟩
  ·exact ⟨h,rfl,cV (by decide)⟩
  ·exact ⟨h.same rfl rfl,rfl,cV (by decide)⟩
  ·exact ⟨h,rfl,cV (by decide)⟩
  ·exact ⟨h.none rfl rfl,rfl,cV (by decide)⟩
  ·cases j:s.tx with
   | none=>rw [show fC s 5=false by unfold fC i7;rw [j];rfl] at i;cases i
   | some t=>
    obtain ⟨m,p⟩:=h.tx t j
    have y:0 < t.tos.length:=by
     unfold fC i7 at i;rw [j] at i;simp at i;exact i.1
    refine ⟨⟨fun A e=>?_,h.time,h.len,h.recs,h.wait⟩,rfl,cV (by decide)⟩;injection e with e;subst e;exact ⟨⟨m.frm,m.tos,m.one,m.most,fun b e=>by injection e with e;subst e;exact ⟨y,by simp⟩⟩,p⟩
  ·exact ⟨h.none rfl rfl,rfl,cV (by simp only [List.length_append,List.length_cons,List.length_nil];omega)⟩
  ·refine ⟨h.none rfl rfl,rfl,fun l w=>?_,?_⟩
   ·simp only [List.mem_cons,List.not_mem_nil,or_false] at w
    rcases w with rfl | rfl | rfl
    ·simp only [List.length_append,List.length_cons,List.length_nil];omega
    ·simp only [List.length_append,List.length_cons,List.length_nil];omega
    ·decide
   ·simp only [List.flatten_cons,List.flatten_nil,List.length_append,List.length_cons,List.length_nil];omega
  ·change iv c (o7 c s a).1 S d∧(o7 c s a).1.wait=s.wait∧qj (o7 c s a).2;unfold o7
   split
   ·exact ⟨h,rfl,cV (by decide)⟩
   ·split
    ·exact ⟨h.same rfl rfl,rfl,cV (by decide)⟩
    ·exact ⟨h,rfl,cV (by decide)⟩
  ·change iv c (lf c s f (g:Int)).1 S d∧(lf c s f (g:Int)).1.wait=s.wait∧qj (lf c s f (g:Int)).2;unfold lf
   split
   ·exact ⟨h,rfl,cV (by decide)⟩
   ·split
    ·exact ⟨h,rfl,cV (by decide)⟩
    ·refine ⟨⟨fun t e=>?_,h.time,h.len,h.recs,h.wait⟩,rfl,cV (by decide)⟩;injection e with e;subst e;exact ⟨⟨o.name,(fun x z=>by cases z),List.nodup_nil,Nat.zero_le _,(fun b e=>by cases e)⟩,by show (0:Int)≤_;omega⟩
  ·cases j:s.tx with
   | none=>rw [show fC s 10=false by unfold fC i7;rw [j];rfl] at i;cases i
   | some t=>
    obtain ⟨m,p⟩:=h.tx t j;refine ⟨⟨fun A e=>?_,h.time,h.len,h.recs,h.wait⟩,rfl,BX _ _ _ _⟩;injection e with e;subst e;exact Hm (by omega) _ m p (o.rcpt rfl) (q t j)
theorem GK {b:dV} {a:List UInt8} {d:Bool} {c:Int} (h:b.text.length≤1102) (f:c≤1000) (g:a.length≤100):(b.add a d c).text.length≤1102:=by
 unfold dV.add;have:=tW a
 split
 ·exact h
 ·rename_i e
  show ((if b.has then b.text++[13,10] else b.text)++jq a).length≤1102;rw [List.length_append]
  split
  ·rw [List.length_append];simp only [List.length_cons,List.length_nil];omega
  ·omega
theorem Bg (l:List UInt8):(fi l).length=8+l.length:=by unfold fi;simp only [List.length_append,bq];omega
theorem Bo {c:bT} {s:bA} {S:aa} {a:List UInt8} (q:iL c=true) (h:iv c s S a) {t:mN} (u:s.tx=some t) {b:dV} (o:t.body=some b) (d:List UInt8) (f:Bool) (m:d.length≤100):
  iv c (dr c s S a t b d f).1 (dr c s S a t b d f).2.1 (dr c s S a t b d f).2.2.1∧(dr c s S a t b d f).1.wait=s.wait∧qj (dr c s S a t b d f).2.2.2:=by
 have x:=mu q;obtain ⟨g,r⟩:=h.tx t u;have i:=(g.body b o);unfold dr
 split
 ·unfold lQ
  split
  ·exact ⟨h.none rfl rfl,rfl,cV (by decide)⟩
  ·split
   ·exact ⟨h.none rfl rfl,rfl,cV (by decide)⟩
   ·split
    ·rename_i j
     have l:((a.length+(8+(dd (eH S t.frm t.tos b.text)).length):Nat):Int)≤c.room:=by
      unfold oX at j;simp only [Bool.not_eq_true',decide_eq_false_iff_not] at j;omega
     have k:=Bg (dd (eH S t.frm t.tos b.text));have p:=h.len.items;refine ⟨⟨(fun v e=>by cases e),h.time,?_,?_,h.wait⟩,rfl,cV ?_⟩
     ·show yq (S.plus (eH S t.frm t.tos b.text)) (a++fi (dd (eH S t.frm t.tos b.text)));exact h.len.plus g.most (Fk _) (by rw [k];omega)
     ·exact h.recs.plus rfl (xL h.keep g o) i.1 g.most
     ·have:=zs (n:=(S.items.length:Int)+1) (by omega) (by omega);simp only [List.length_append,List.length_cons,List.length_nil];omega
    ·exact ⟨h.none rfl rfl,rfl,cV (by decide)⟩
 ·refine ⟨⟨fun v e=>?_,h.time,h.len,h.recs,h.wait⟩,rfl,Ep⟩;injection e with e;subst e;exact ⟨⟨g.frm,g.tos,g.one,g.most,fun w e=>by injection e with e;subst e;exact ⟨i.1,GK i.2 (by omega) m⟩⟩,r⟩
theorem j3 {c:bT} {s:bA} {S:aa} {d:List UInt8} (m:iL c=true) (h:iv c s S d) (a:List UInt8) (f:Bool) (l:a.length≤100):
  iv c (aO c s S d a f).1 (aO c s S d a f).2.1 (aO c s S d a f).2.2.1∧(aO c s S d a f).1.wait=s.wait∧qj (aO c s S d a f).2.2.2:=by
 have i:(∀t,s.tx=some t→t.body=none)→_:=fun k=>D5 m h (bn a f) (zT a f) k
 cases g:s.tx with
 | none=>
  have e:aO c s S d a f=((bt c s (bn a f)).1,S,d,(bt c s (bn a f)).2):=by unfold aO;rw [g]
  rw [e];exact i (fun t e=>by rw [g] at e;cases e)
 | some t=>
  cases j:t.body with
  | none=>
   have e:aO c s S d a f=((bt c s (bn a f)).1,S,d,(bt c s (bn a f)).2):=by unfold aO;rw [g];simp only;rw [j]
   rw [e];exact i (fun n e=>by rw [g] at e;injection e with e;subst e;exact j)
  | some b=>
   have e:aO c s S d a f=dr c s S d t b a f:=by unfold aO;rw [g];simp only;rw [j]
   rw [e];exact Bo m h g j a f l
theorem FG (l:List UInt8):(iX l).1.length≤100∧((iX l).2=false→ee (iX l).1):=by
 unfold iX
 split
 ·exact ⟨by simp,fun e=>by cases e⟩
 ·rename_i h
  simp only [Bool.or_eq_true,decide_eq_true_eq,List.any_eq_true,not_or,not_exists,not_and] at h;refine ⟨by show l.length≤100;omega,fun _ x a=>?_⟩
  have:=h.2 x a;unfold rV at this;simp only [Bool.or_eq_true,decide_eq_true_eq,not_or] at this;omega
section
variable {E:Nat→Prop} {pp pb mb sb ch bl:Nat} {c:bT} {w:World} {A:Nat→Prop} {q:Nat→Nat} {vr:Value} {S:aa} {recs:List UInt8} {vw v:Value} {acc:List UInt8} {ls:List (List UInt8)} {s:bA}
theorem DE [Kn] (h:ft E pp pb mb sb ch bl c w A q vr S recs vw v acc [] s) (m:iv c s S recs) (a:List UInt8) (d:Bool) (n:a.length≤100) (k:d=false→ee a) (i:acc.length≤1099511627776):
  Calls Tryz.prog 67 #[.pointer (some ⟨sb,0,none⟩),.agg #[.string (bs a),.bool d],.pointer (some ⟨bl,0,none⟩)] w fun e o=>e= .returned (.tuple #[])∧mM E A pp pb mb sb ch bl c q vr S vw v w (aO c s S recs a d).1 (aO c s S recs a d).2.1 (aO c s S recs a d).2.2.1 (acc++(aO c s S recs a d).2.2.2.flatten) o:=by
 obtain ⟨_,j,f⟩:=j3 h.env.may m a d n
 cases g:s.tx with
 | none=>
  have e:aO c s S recs a d=((bt c s (bn a d)).1,S,recs,(bt c s (bn a d)).2):=by unfold aO;rw [g]
  rw [e] at j f ⊢;exact vF h (fun t e=>by rw [g] at e;cases e) a d (by omega) k f.1 f.2 i j
 | some t=>
  cases l:t.body with
  | none=>
   have e:aO c s S recs a d=((bt c s (bn a d)).1,S,recs,(bt c s (bn a d)).2):=by unfold aO;rw [g];simp only;rw [l]
   rw [e] at j f ⊢;exact vF h (fun p e=>by rw [g] at e;injection e with e;subst e;exact ⟨l,(m.tx t g).1.most⟩) a d (by omega) k f.1 f.2 i j
  | some b=>
   have e:aO c s S recs a d=dr c s S recs t b a d:=by unfold aO;rw [g];simp only;rw [l]
   rw [e] at j f ⊢;exact Bp h m.keep g (m.tx t g).1 l a d (by omega) f.1 f.2 i j
end
def gC (c:bT) (x:bA×aa×List UInt8×List UInt8) (b:UInt8):bA×aa×List UInt8×List UInt8:=
 if x.1.over then x else
 match jG x.1.wait b with
 | (wt,none)=>({x.1 with wait:=wt},x.2.1,x.2.2.1,x.2.2.2)
 | (wt,some l)=>((aO c {x.1 with wait:=wt} x.2.1 x.2.2.1 l.1 l.2).1,(aO c {x.1 with wait:=wt} x.2.1 x.2.2.1 l.1 l.2).2.1,(aO c {x.1 with wait:=wt} x.2.1 x.2.2.1 l.1 l.2).2.2.1,x.2.2.2++(aO c {x.1 with wait:=wt} x.2.1 x.2.2.1 l.1 l.2).2.2.2.flatten)
def cH (c:bT) (x:bA×aa×List UInt8×List UInt8) (piece:List UInt8):bA×aa×List UInt8×List UInt8:=piece.foldl (gC c) x
theorem tP (a:List UInt8) (b:UInt8):(jG a b).1.length≤102∧∀l,(jG a b).2=some l→l.1.length≤100∧(l.2=false→ee l.1):=by
 unfold jG
 split
 ·refine ⟨by simp,fun l e=>?_⟩
  injection e with e;rw [←e];exact FG _
 ·exact ⟨Ci _,fun l e=>by cases e⟩
theorem Ew {c:bT} (f:iL c=true) {x:bA×aa×List UInt8×List UInt8} (h:iv c x.1 x.2.1 x.2.2.1) (b:UInt8):iv c (gC c x b).1 (gC c x b).2.1 (gC c x b).2.2.1∧(gC c x b).2.2.2.length≤x.2.2.2.length+3000:=by
 unfold gC
 split
 ·exact ⟨h,by omega⟩
 ·have a:=tP x.1.wait b
  rcases hx:jG x.1.wait b with ⟨e,o⟩;rw [hx] at a;have d:iv c {x.1 with wait:=e} x.2.1 x.2.2.1:=⟨h.tx,h.time,h.len,h.recs,a.1⟩
  cases o with
  | none=>exact ⟨d,Nat.le_add_right _ _⟩
  | some l=>
   obtain ⟨g,_,i⟩:=j3 f d l.1 l.2 (a.2 l rfl).1;refine ⟨g,?_⟩;show (x.2.2.2++(aO c {x.1 with wait:=e} x.2.1 x.2.2.1 l.1 l.2).2.2.2.flatten).length≤_;rw [List.length_append];exact Nat.add_le_add_left i.2 _
theorem pP {c:bT} (d:iL c=true):∀(a:List UInt8) (x:bA×aa×List UInt8×List UInt8),iv c x.1 x.2.1 x.2.2.1→iv c (cH c x a).1 (cH c x a).2.1 (cH c x a).2.2.1∧(cH c x a).2.2.2.length≤x.2.2.2.length+3000 * a.length
 | [],x,h=>⟨h,by show x.2.2.2.length≤_;omega⟩
 | b::r,x,h=>by
  obtain ⟨e,g⟩:=Ew d h b;obtain ⟨f,i⟩:=pP d r (gC c x b) e;refine ⟨f,?_⟩;show (cH c (gC c x b) r).2.2.2.length≤_;rw [List.length_cons];omega
theorem sJ {c:bT} {x:bA×aa×List UInt8×List UInt8} (h:x.1.over=true):∀a,cH c x a=x
 | []=>rfl
 | b::r=>by
  show cH c (gC c x b) r=x;have:gC c x b=x:=by unfold gC;rw [h];rfl
  rw [this];exact sJ h r
theorem Bq (c:bT) (x:bA×aa×List UInt8×List UInt8) (a:List UInt8) (k:Nat) (h:k < a.length):cH c x (a.take (k+1))=gC c (cH c x (a.take k)) a[k]:=by
 unfold cH;rw [List.take_succ_eq_append_getElem h,List.foldl_append];rfl
def j4:List (List UInt8):=[[72,69,76,79,32,120],
 [69,72,76,79,32,121,46,122],
 [65,85,84,72,32,80,76,65,73,78,32,65,72,85,65,100,119,61,61],
 [65,85,84,72,32,80,76,65,73,78,32,100,81,66,49,65,72,99,61],
 [65,85,84,72,32,80,76,65,73,78,32,65,72,85,65,101,65,61,61],
 [65,85,84,72,32,80,76,65,73,78,32,65,72,89,65,98,71,57,117,90,121,66,51,98,51,74,107],
 [65,85,84,72,32,80,76,65,73,78,32,100,103,66,49,65,72,99,61],
 [78,79,79,80],
 [82,83,69,84],
 [81,85,73,84],
 [87,72,65,84],
 [72,69,76,79],
 [77,65,73,76,32,70,82,79,77,58,60,97,64,98,62,32,83,73,90,69,61,50,48,48,48],
 [77,65,73,76,32,70,82,79,77,58,60,62],
 [109,97,105,108,32,102,114,111,109,58,60,109,101,64,72,69,82,69,46,111,114,103,62],
 [77,65,73,76,32,70,82,79,77,58,60,120,64,99,46,100,62,32,83,73,90,69,61,53],
 [82,67,80,84,32,84,79,58,60,106,64,97,46,111,114,103,62],
 [82,67,80,84,32,84,79,58,60,107,64,65,46,79,82,71,62],
 [82,67,80,84,32,84,79,58,60,108,64,98,46,110,101,116,62],
 [82,67,80,84,32,84,79,58,60,109,64,99,46,111,114,103,62],
 [82,67,80,84,32,84,79,58,60,110,64,100,46,111,114,103,62],
 [114,99,112,116,32,116,111,58,60,106,64,65,46,111,114,103,62],
 [68,65,84,65],
 [68,65,84,65],
 [104,101,108,108,111],
 [46,46,116,119,111,32,100,111,116,115],
 [],
 [46],
 [46],
 [97,32,108,105,110,101,32,111,102,32,97,32,98,111,100,121,32,116,104,97,116,32,105,115,32,108,111,110,103,101,114,32,116,104,97,110,32,109,111,115,116],
 [72,69,76,79,32,120,13,10,77,65,73,76,32,70,82,79,77,58,60,109,101,64,104,101,114,101,46,111,114,103,62,13,10,82,67,80,84,32,84,79,58,60,106,64,97,46,111,114,103,62,13,10,68,65,84,65,13,10,104,101,108,108,111,13,10,46,46,13,10,46],
 [72,69,76,79,32,120,13,10,65,85,84,72,32,80,76,65,73,78,32,65,72,85,65,100,119,61,61,13,10,77,65,73,76,32,70,82,79,77,58,60,109,101,64,104,101,114,101,46,111,114,103,62,13,10,82,67,80,84,32,84,79,58,60,109,64,99,46,111,114,103,62,13,10,82,67,80,84,32,84,79,58,60,110,64,100,46,111,114,103,62,13,10,82,67,80,84,32,84,79,58,60,106,64,97,46,111,114,103,62,13,10,68,65,84,65,13,10,116,111,32,116,104,114,101,101,13,10,46]]
def LL:List (List UInt8):=[[72,69,76,79,32,120],
 [69,72,76,79,32,121,46,122],
 [65,85,84,72,32,80,76,65,73,78,32,65,72,85,65,100,119,61,61],
 [65,85,84,72,32,80,76,65,73,78,32,100,81,66,49,65,72,99,61],
 [65,85,84,72,32,80,76,65,73,78,32,65,72,85,65,101,65,61,61],
 [65,85,84,72,32,80,76,65,73,78,32,65,72,89,65,98,71,57,117,90,121,66,51,98,51,74,107],
 [65,85,84,72,32,80,76,65,73,78,32,100,103,66,49,65,72,99,61],
 [78,79,79,80],
 [82,83,69,84],
 [81,85,73,84],
 [87,72,65,84],
 [72,69,76,79],
 [77,65,73,76,32,70,82,79,77,58,60,97,64,98,62,32,83,73,90,69,61,50,48,48,48],
 [77,65,73,76,32,70,82,79,77,58,60,62],
 [109,97,105,108,32,102,114,111,109,58,60,109,101,64,72,69,82,69,46,111,114,103,62],
 [77,65,73,76,32,70,82,79,77,58,60,120,64,99,46,100,62,32,83,73,90,69,61,53],
 [82,67,80,84,32,84,79,58,60,106,64,97,46,111,114,103,62],
 [82,67,80,84,32,84,79,58,60,107,64,65,46,79,82,71,62],
 [82,67,80,84,32,84,79,58,60,108,64,98,46,110,101,116,62],
 [82,67,80,84,32,84,79,58,60,109,64,99,46,111,114,103,62],
 [82,67,80,84,32,84,79,58,60,110,64,100,46,111,114,103,62],
 [114,99,112,116,32,116,111,58,60,106,64,65,46,111,114,103,62],
 [68,65,84,65],
 [104,101,108,108,111],
 [46,46,116,119,111,32,100,111,116,115],
 [],
 [46],
 [97,32,108,105,110,101,32,111,102,32,97,32,98,111,100,121,32,116,104,97,116,32,105,115,32,108,111,110,103,101,114,32,116,104,97,110,32,109,111,115,116],
 [77,65,73,76,32,70,82,79,77,58,60,109,101,64,104,101,114,101,46,111,114,103,62],
 [46,46],
 [116,111,32,116,104,114,101,101]]
def lA:List UInt8:=[65,85,84,72]
def gK:List UInt8:=[82,67,80,84]
def fI:List UInt8:=[81,85,73,84]
def jF (l:List UInt8):Bool:=bh l [82,83,69,84] || bh l [77,65,73,76] || bh l [72,69,76,79] || bh l [69,72,76,79]
def fL (l:List UInt8):List UInt8:=(eh ((l.take (l.length - 1)).drop 9)).1++[64]++(eh ((l.take (l.length - 1)).drop 9)).2.1
def IM:List UInt8:=[97,46,111,114,103]
def IU:List UInt8:=[98,46,110,101,116]
def mj:List ByteArray:=[bs [97,46,111,114,103],bs [66,46,110,101,116]]
def vJ (t:List UInt8):Bool:=Dr t == IM || Dr t == IU
def EI (l:List UInt8):Bool:=decide (l.length≤100) && l.all fun b=>decide (32≤b.toNat) && decide (b.toNat≤126)
def Hz (l:List UInt8):Bool:=
 EI l && (bh l fI == ((bn l false).verb == 2)) &&
 (!((bn l false).verb == 4 || (bn l false).verb == 6 || (bn l false).verb == 7 || (bn l false).verb == 9) || jF l) &&
 (!jF l || ((bn l false).verb == 4 || (bn l false).verb == 6 || (bn l false).verb == 7 || (bn l false).verb == 9 || (bn l false).verb == 1)) &&
 (bh l lA == ((bn l false).verb == 8)) && (bh l gK == ((bn l false).verb == 10)) &&
 (!((bn l false).verb == 10) || (decide (10≤l.length) && fL l == (bn l false).name && vJ (bn l false).name == ((eh (bn l false).name).2.2 && mj.any (lH (bs (eh (bn l false).name).2.1))))) &&
 decide ((bn l false).verb≤10)
theorem II:LL.all Hz=true:=by kernel_rfl
def lB:Nat→List UInt8→Bool
 | 0,_=>false
 | n+1,l=>LL.contains (gA l).1 && (decide ((gA l).2=[]) || lB n (gA l).2)
theorem FI:j4.all (lB 9)=true:=by kernel_rfl
theorem zz:j4.all (fun l=>decide (l.length≤200))=true:=by kernel_rfl
structure rO (l:List UInt8):Prop where
 ok:EI l=true
 quit:bh l fI=((bn l false).verb == 2)
 over:((bn l false).verb=4∨(bn l false).verb=6∨(bn l false).verb=7∨(bn l false).verb=9)→jF l=true
 overs:jF l=true→((bn l false).verb=4∨(bn l false).verb=6∨(bn l false).verb=7∨(bn l false).verb=9∨(bn l false).verb=1)
 auth:bh l lA=((bn l false).verb == 8)
 rcpt:bh l gK=((bn l false).verb == 10)
 addr:(bn l false).verb=10→10≤l.length∧fL l=(bn l false).name∧vJ (bn l false).name=((eh (bn l false).name).2.2 && mj.any (lH (bs (eh (bn l false).name).2.1)))
 most:(bn l false).verb≤10
theorem rG {l:List UInt8} (h:l∈LL):rO l:=by
 have:=List.all_eq_true.1 II l h;unfold Hz at this;simp only [Bool.and_eq_true,Bool.or_eq_true,Bool.not_eq_true',beq_iff_eq,decide_eq_true_eq] at this;obtain ⟨⟨⟨⟨⟨⟨⟨d,f⟩,b⟩,c⟩,g⟩,i⟩,a⟩,j⟩:=this;refine ⟨d,f,fun e=>?_,fun e=>?_,g,i,fun e=>?_,j⟩
 ·rcases b with b | b
  ·rw [Bool.or_eq_false_iff,Bool.or_eq_false_iff,Bool.or_eq_false_iff] at b;simp only [beq_eq_false_iff_ne] at b;omega
  ·exact b
 ·rcases c with c | c
  ·rw [e] at c;cases c
  ·omega
 ·rcases a with a | a
  ·rw [beq_eq_false_iff_ne] at a;exact absurd e a
  ·exact ⟨a.1.1,a.1.2,a.2⟩
theorem Ey {p:List UInt8} {b:UInt8} (a:b.toNat≠10) (e:p.length < 102):jG p b=(p++[b],none):=by
 have c:oP (p++[b])=false:=by
  unfold oP Lib.hasSuffix;rw [←Bool.not_eq_true];intro h;have h:=List.isSuffixOf_iff_suffix.1 h;obtain ⟨t,d⟩:=h;have:=congrArg List.getLast? d;rw [show t++[13,10]=(t++[13])++[10] by simp,List.getLast?_concat,List.getLast?_concat] at this
  injection this with this;exact a (by rw [←this];rfl)
 unfold jG;rw [c,if_neg (by decide)];unfold kA;rw [if_neg (by rw [List.length_append,List.length_singleton];omega)]
theorem Gs {p:List UInt8}:jG (p++[13]) 10=([],some (iX p)):=by
 have a:oP (p++[13]++[10])=true:=by
  unfold oP Lib.hasSuffix;exact List.isSuffixOf_iff_suffix.2 ⟨p,by simp⟩
 unfold jG;rw [a,if_pos rfl]
 congr 3
 rw [show p++[13]++[10]=p++[13,10] by simp,List.length_append,show ([13,10]:List UInt8).length=2 from rfl,Nat.add_sub_cancel,List.take_left]
theorem vI (c:bT) (S:aa) (a d:List UInt8):∀(l:List UInt8) (s:bA),s.over=false→(∀b∈l,b.toNat≠10)→s.wait.length+l.length≤101→cH c (s,S,a,d) l=({s with wait:=s.wait++l},S,a,d)
 | [],s,_,_,_=>by
  show (s,S,a,d)=_;rw [List.append_nil]
 | b::r,s,ho,hb,hl=>by
  rw [List.length_cons] at hl;show cH c (gC c (s,S,a,d) b) r=_
  have e:gC c (s,S,a,d) b=({s with wait:=s.wait++[b]},S,a,d):=by
   unfold gC;simp only [ho,Bool.false_eq_true,if_false];rw [Ey (hb b (List.mem_cons_self ..)) (by omega)]
  rw [e,vI c S a d r {s with wait:=s.wait++[b]} ho (fun x f=>hb x (List.mem_cons_of_mem _ f)) (by show (s.wait++[b]).length+r.length≤101;rw [List.length_append,List.length_singleton];omega)];show ({s with wait:=s.wait++[b]++r},S,a,d)=_;rw [List.append_assoc];rfl
theorem xM {l:List UInt8} (h:EI l=true):l.length≤100∧(∀b∈l,b.toNat≠10∧b.toNat≠13)∧iX l=(l,false):=by
 unfold EI at h;rw [Bool.and_eq_true,decide_eq_true_eq,List.all_eq_true] at h;have a:∀b∈l,32≤b.toNat∧b.toNat≤126:=fun b a=>by have:=h.2 b a;rwa [Bool.and_eq_true,decide_eq_true_eq,decide_eq_true_eq] at this
 refine ⟨h.1,fun b x=>by have:=a b x;omega,?_⟩
 unfold iX;rw [if_neg];rw [Bool.or_eq_true,decide_eq_true_eq,List.any_eq_true];rintro (e | ⟨b,d,c⟩)
 ·omega
 ·have:=a b d;unfold rV at c;simp only [Bool.or_eq_true,decide_eq_true_eq] at c;omega
theorem oc (c:bT) (s:bA) (S:aa) (a d:List UInt8) {l:List UInt8} (h:EI l=true) (f:s.over=false) (g:s.wait=[]):cH c (s,S,a,d) (l++[13,10])=((aO c s S a l false).1,(aO c s S a l false).2.1,(aO c s S a l false).2.2.1,d++(aO c s S a l false).2.2.2.flatten):=by
 obtain ⟨o,m,n⟩:=xM h;have j:l++[13,10]=(l++[13])++[10]:=by simp
 unfold cH;rw [j,List.foldl_append]
 have i:=vI c S a d (l++[13]) s f (fun b e=>by
  rcases List.mem_append.1 e with e | e
  ·exact (m b e).1
  ·rw [List.mem_singleton.1 e];decide) (by rw [g,List.length_append,List.length_nil,List.length_singleton];omega)
 unfold cH at i;rw [i,g,List.nil_append];show gC c ({s with wait:=l++[13]},S,a,d) 10=_;unfold gC;simp only [f,Bool.false_eq_true,if_false];rw [Gs,n]
 have k:(bA.mk s.nets s.greeted s.known false [] s.tx)=s:=by
  cases s
  cases f
  cases g
  rfl
 simp only [k]
theorem DF (c:bT) (s:bA) (S:aa) (a:List UInt8) {l:List UInt8} (h:EI l=true) (b:s.over=false) (d:s.wait=[]):cH c (s,S,a,[]) (l++[13,10])=((aO c s S a l false).1,(aO c s S a l false).2.1,(aO c s S a l false).2.2.1,(aO c s S a l false).2.2.2.flatten):=oc c s S a [] h b d
theorem kX (c:bT) (s:bA) (S:aa) (a b:List UInt8) {l:List UInt8} (h:EI l=true) (d:s.over=false) (e:s.wait=[]) (r:List UInt8):cH c (s,S,a,b) (l++[13,10]++r)=cH c ((aO c s S a l false).1,(aO c s S a l false).2.1,(aO c s S a l false).2.2.1,b++(aO c s S a l false).2.2.2.flatten) r:=by
 rw [←oc c s S a b h d e];unfold cH;rw [List.foldl_append]
structure bV where
 addr:Int
 known:Bool
 inside:Bool
 closed:Bool
 tos:List (List UInt8)
def cP (out:List UInt8):List UInt8:=if 4≤out.length then out.take 3 else []
def lz:List UInt8:=[50,53,48]
def tH:List UInt8:=[51,53,52]
def tG:List UInt8:=[50,51,53]
def Hn:List UInt8:=[50,50,49]
def tg (x:bV) (t:List UInt8):Bool:=vJ t || decide (x.addr / 256=1) || x.known
def gv (x:bV) (l out:List UInt8):bV:=
 if x.inside=true∧l≠[46] then x
 else if x.inside=true then {x with inside:=false,tos:=[]}
 else if cP out=tH then {x with inside:=true}
 else if cP out=tG∧bh l lA=true then {x with known:=true}
 else if cP out=lz∧bh l gK=true then {x with tos:=jc x.tos (fL l)}
 else if bh l fI=true then {x with closed:=true}
 else if jF l=true∧cP out=lz then {x with tos:=[]}
 else x
def fy (x:bV) (l out:List UInt8):List aR:=
 if x.inside=true∧l=[46]∧cP out=lz then [⟨lq out,0,[],x.tos,[]⟩] else []
def cZ (x:bV) (l out:List UInt8):Bool:=
 if x.inside=true∧l≠[46] then decide (out≠[])
 else if x.inside=true then decide (cP out=lz) && !(x.tos.all (tg x))
 else if cP out=tH then false
 else if cP out=tG∧bh l lA=true then false
 else if cP out=lz∧bh l gK=true then false
 else if bh l fI=true then decide (cP out≠Hn)
 else false
def Hy (s:bA):Bool:=(s.tx.bind (·.body)).isSome
def Gx (s:bA):List (List UInt8):=match s.tx with | some t=>t.tos | none=>[]
structure jV (x:bV) (s:bA):Prop where
 closed:x.closed=false
 over:s.over=false
 wait:s.wait=[]
 known:x.known=s.known
 inside:x.inside=Hy s
 tos:x.tos=Gx s
 nets:s.nets=true→x.addr / 256=1
 may:∀t∈x.tos,tg x t=true
 addr:0≤x.addr∧x.addr < 1000
def dW (x:bV):Option bA→Prop
 | none=>x.closed=true
 | some s=>jV x s
theorem dW.of {x:bV} {s:bA} (h:jV x s):dW x (if s.over then none else some s):=by
 rw [if_neg (by rw [h.over];decide)];exact h
theorem th:∀(k n a:Nat),n < 10 ^ (k+1)→∃e,(Lib.decDigits n).foldl my a=a * 10 ^ e+n
 | 0,n,a,h=>by
  have h:n < 10:=by omega
  refine ⟨1,?_⟩;rw [Lib.decDigits,dif_pos h];show my a (UInt8.ofNat (48+n))=_;unfold my;have e:(UInt8.ofNat (48+n)).toNat=48+n:=by rw [UInt8.toNat_ofNat'];omega
  rw [e,if_pos (by omega)];omega
 | k+1,n,a,h=>by
  by_cases b:n < 10
  ·refine ⟨1,?_⟩;rw [Lib.decDigits,dif_pos b];show my a (UInt8.ofNat (48+n))=_;unfold my;have e:(UInt8.ofNat (48+n)).toNat=48+n:=by rw [UInt8.toNat_ofNat'];omega
   rw [e,if_pos (by omega)];omega
  ·obtain ⟨e,f⟩:=th k (n / 10) a (by rw [Nat.pow_succ] at h;omega);refine ⟨e+1,?_⟩;rw [Lib.decDigits,dif_neg b,List.foldl_append,f];show my (a * 10 ^ e+n / 10) (UInt8.ofNat (48+n % 10))=_;unfold my;have d:(UInt8.ofNat (48+n % 10)).toNat=48+n % 10:=by rw [UInt8.toNat_ofNat'];omega
   rw [d,if_pos (by omega),Nat.pow_succ,←Nat.mul_assoc];omega
theorem FY (n:Nat):lq ([50,53,48,32,107,101,112,116,32]++Lib.itoa (n:Int)++[13,10])=n:=by
 have a:Lib.itoa (n:Int)=Lib.decDigits n:=by
  unfold Lib.itoa;rw [if_neg (by omega),Int.toNat_natCast]
 unfold lq;rw [a,List.append_assoc,List.drop_append_of_le_length (by decide),List.foldl_append,List.foldl_append];have b:(([50,53,48,32,107,101,112,116,32]:List UInt8).drop 4).foldl my 0=0:=by decide
 obtain ⟨k,f⟩:∃k,n < 10 ^ (k+1):=⟨n,Nat.lt_of_lt_of_le (Nat.lt_pow_self (by decide:1 < 10)) (Nat.pow_le_pow_right (by decide) (Nat.le_succ n))⟩;obtain ⟨e,d⟩:=th k n 0 f;rw [b,d,Nat.zero_mul,Nat.zero_add];show my (my n 13) 10=n;unfold my;rw [if_neg (by decide),if_neg (by decide)]
theorem oK (a b c e:UInt8) (r:List UInt8):cP (a::b::c::e::r)=[a,b,c]:=by
 unfold cP;rw [if_pos (by simp)];rfl
section
variable {c:bT} {x:bV} {s:bA} {S:aa} {recs l:List UInt8}
theorem pn (e:x.inside=false) {out:List UInt8} (a:cP out≠tH) (b:cP out≠tG) (d:cP out≠lz):gv x l out=(if bh l fI=true then {x with closed:=true} else x)∧fy x l out=[]∧cZ x l out=if bh l fI=true then decide (cP out≠Hn) else false:=by
 unfold gv fy cZ;simp [e,a,b,d]
theorem ik (b:x.inside=false) {out:List UInt8} (a:cP out=lz):gv x l out=(if bh l gK=true then {x with tos:=jc x.tos (fL l)} else if bh l fI=true then {x with closed:=true} else if jF l=true then {x with tos:=[]} else x)∧fy x l out=[]∧cZ x l out=if bh l gK=true then false else if bh l fI=true then decide (cP out≠Hn) else false:=by
 have d:lz≠tH:=by decide
 have e:lz≠tG:=by decide
 unfold gv fy cZ;simp [b,a,d,e]
theorem zZ (b:x.inside=false) {out:List UInt8} (a:cP out=tH):gv x l out={x with inside:=true}∧fy x l out=[]∧cZ x l out=false:=by
 unfold gv fy cZ;simp [b,a]
theorem zY (d:x.inside=false) {out:List UInt8} (a:cP out=tG) (b:bh l lA=true):gv x l out={x with known:=true}∧fy x l out=[]∧cZ x l out=false:=by
 have e:tG≠tH:=by decide
 unfold gv fy cZ;simp [d,a,e,b]
theorem E2 (C:rO l) (Z:c.doms=mj) (h:jV x s) (j:x.inside=false):dW (gv x l (bt c s (bn l false)).2.flatten) (if (bt c s (bn l false)).1.over then none else some (bt c s (bn l false)).1)∧fy x l (bt c s (bn l false)).2.flatten=[]∧cZ x l (bt c s (bn l false)).2.flatten=false:=by
 have M:=C.quit;have G:=C.over;have H:=C.overs;have F:=C.auth;have Q:=C.rcpt;have E:=C.addr;have hm:=C.most;obtain ⟨k,W⟩:∃k,bn l false=k:=⟨_,rfl⟩;rw [W] at M G H F Q E hm ⊢
 have r:∀g,cP g≠tH→cP g≠tG→cP g≠lz→k.verb≠2→dW (gv x l g) (if s.over then none else some s)∧fy x l g=[]∧cZ x l g=false:=fun g i n D X=>by
  obtain ⟨a,b,e⟩:=pn (l:=l) j i n D;have q0:bh l fI=false:=by rw [M,beq_eq_false_iff_ne];exact X
  rw [a,b,e,q0];exact ⟨dW.of h,rfl,rfl⟩
 have T:cP mn=[53,48,51]:=rfl
 by_cases d:fC s k.verb=false
 ·have e:bt c s k=(s,[mn]):=by unfold bt;rw [if_pos d]
  rw [e];have R:k.verb≠2:=fun e=>by rw [e] at d;cases d
  exact r ([mn]:List (List UInt8)).flatten (by decide) (by decide) (by decide) R
 have hv:k.verb=0∨k.verb=1∨k.verb=2∨k.verb=3∨k.verb=4∨k.verb=5∨k.verb=6∨k.verb=7∨k.verb=8∨k.verb=9∨k.verb=10:=by omega
 have K:k.verb≠2→bh l fI=false:=fun e=>by rw [M,beq_eq_false_iff_ne];exact e
 have L:k.verb≠10→bh l gK=false:=fun e=>by rw [Q,beq_eq_false_iff_ne];exact e
 rcases hv with v | v | v | v | v | v | v | v | v | v | v
 ·have e:bt c s k=(s,[xH]):=by unfold bt;rw [if_neg d];simp only [v]
  rw [e];exact r ([xH]:List (List UInt8)).flatten (by decide) (by decide) (by decide) (by omega)
 ·have e:bt c s k=(s,[FC]):=by unfold bt;rw [if_neg d];simp only [v]
  rw [e];exact r ([FC]:List (List UInt8)).flatten (by decide) (by decide) (by decide) (by omega)
 ·have e:bt c s k=({s with over:=true},[FB]):=by unfold bt;rw [if_neg d];simp only [v]
  rw [e];obtain ⟨a,b,f⟩:=pn (l:=l) j (out:=([FB]:List (List UInt8)).flatten) (by decide) (by decide) (by decide);have q1:bh l fI=true:=by rw [M,v];rfl
  rw [a,b,f,q1];exact ⟨rfl,rfl,by decide⟩
 ·have e:bt c s k=(s,[jJ]):=by unfold bt;rw [if_neg d];simp only [v]
  rw [e];obtain ⟨a,b,f⟩:=ik (l:=l) j (out:=([jJ]:List (List UInt8)).flatten) (by decide);have o0:jF l=false:=by rw [←Bool.not_eq_true];intro e;have:=H e;omega
  rw [a,b,f,L (by omega),K (by omega),o0];exact ⟨dW.of h,rfl,rfl⟩
 ·have e:bt c s k=({s with tx:=none},[jJ]):=by unfold bt;rw [if_neg d];simp only [v]
  rw [e];obtain ⟨a,b,f⟩:=ik (l:=l) j (out:=([jJ]:List (List UInt8)).flatten) (by decide);rw [a,b,f,L (by omega),K (by omega),G (by omega)];exact ⟨dW.of ⟨h.closed,h.over,h.wait,h.known,j,rfl,h.nets,(fun t m=>by cases m),h.addr⟩,rfl,rfl⟩
 ·cases m:s.tx with
  | none=>
   rw [v] at d;unfold fC at d;rw [m] at d;exact absurd rfl d
  | some t=>
   have e:bt c s k=({s with tx:=some {t with body:=some ⟨[],false,false⟩}},[zw]):=by unfold bt;rw [if_neg d];simp only [v,m]
   rw [e];obtain ⟨a,b,f⟩:=zZ (l:=l) j (out:=([zw]:List (List UInt8)).flatten) (by decide);rw [a,b,f];exact ⟨dW.of ⟨h.closed,h.over,h.wait,h.known,rfl,by have:=h.tos;unfold Gx at this;rw [m] at this;exact this,h.nets,h.may,h.addr⟩,rfl,rfl⟩
 ·have e:bt c s k=({s with greeted:=true,tx:=none},[[50,53,48,32]++cL c++[13,10]]):=by unfold bt;rw [if_neg d];simp only [v]
  rw [e];obtain ⟨a,b,f⟩:=ik (l:=l) j (out:=([[50,53,48,32]++cL c++[13,10]]:List (List UInt8)).flatten) (by rw [List.flatten_cons,List.append_assoc,List.append_assoc];exact oK _ _ _ _ _);rw [a,b,f,L (by omega),K (by omega),G (by omega)];exact ⟨dW.of ⟨h.closed,h.over,h.wait,h.known,j,rfl,h.nets,(fun t m=>by cases m),h.addr⟩,rfl,rfl⟩
 ·obtain ⟨q,e⟩:∃q,bt c s k=({s with greeted:=true,tx:=none},([50,53,48,45]++cL c++[13,10])::q):=by unfold bt;rw [if_neg d];simp only [v];exact ⟨_,rfl⟩
  rw [e];obtain ⟨a,b,f⟩:=ik (l:=l) j (out:=(([50,53,48,45]++cL c++[13,10])::q:List (List UInt8)).flatten) (by rw [List.flatten_cons,List.append_assoc,List.append_assoc];exact oK _ _ _ _ _);rw [a,b,f,L (by omega),K (by omega),G (by omega)];exact ⟨dW.of ⟨h.closed,h.over,h.wait,h.known,j,rfl,h.nets,(fun t m=>by cases m),h.addr⟩,rfl,rfl⟩
 ·by_cases i:(s.tx.isSome || s.known)=true
  ·have e:bt c s k=(s,[mn]):=by unfold bt;rw [if_neg d];simp only [v];rw [if_pos i]
   rw [e];exact r ([mn]:List (List UInt8)).flatten (by decide) (by decide) (by decide) (by omega)
  ·by_cases n:c.users.any (iw (bs k.shown))=true
   ·have e:bt c s k=({s with known:=true},[DN]):=by unfold bt;rw [if_neg d];simp only [v];rw [if_neg i,if_pos n]
    rw [e];obtain ⟨a,b,f⟩:=zY (l:=l) j (out:=([DN]:List (List UInt8)).flatten) (by decide) (by rw [F,v];rfl);rw [a,b,f];exact ⟨dW.of ⟨h.closed,h.over,h.wait,rfl,h.inside,h.tos,h.nets,(fun t _=>by unfold tg;simp),h.addr⟩,rfl,rfl⟩
   ·have e:bt c s k=(s,[FD]):=by unfold bt;rw [if_neg d];simp only [v];rw [if_neg i,if_neg n]
    rw [e];exact r ([FD]:List (List UInt8)).flatten (by decide) (by decide) (by decide) (by omega)
 ·by_cases i:s.tx.isSome=true
  ·have e:bt c s k=(s,[mn]):=by unfold bt;rw [if_neg d];simp only [v];rw [if_pos i]
   rw [e];exact r ([mn]:List (List UInt8)).flatten (by decide) (by decide) (by decide) (by omega)
  ·by_cases n:c.size < (k.size:Int)
   ·have e:bt c s k=(s,[uG]):=by unfold bt;rw [if_neg d];simp only [v];rw [if_neg i,if_pos n]
    rw [e];exact r ([uG]:List (List UInt8)).flatten (by decide) (by decide) (by decide) (by omega)
   ·have e:bt c s k=({s with tx:=some ⟨k.name,[],none⟩},[jJ]):=by unfold bt;rw [if_neg d];simp only [v];rw [if_neg i,if_neg n]
    rw [e];obtain ⟨a,b,f⟩:=ik (l:=l) j (out:=([jJ]:List (List UInt8)).flatten) (by decide);rw [a,b,f,L (by omega),K (by omega),G (by omega)];exact ⟨dW.of ⟨h.closed,h.over,h.wait,h.known,j,rfl,h.nets,(fun t m=>by cases m),h.addr⟩,rfl,rfl⟩
 ·cases m:s.tx with
  | none=>
   rw [v] at d;unfold fC at d;rw [m] at d;exact absurd rfl d
  | some t=>
   have o:x.tos=t.tos:=by have:=h.tos;unfold Gx at this;rw [m] at this;exact this
   have A:t.body=none:=by
    have:=h.inside;rw [j] at this;unfold Hy at this;rw [m] at this
    cases Y:t.body with
    | none=>rfl
    | some b=>rw [show (some t:Option mN).bind (·.body)=t.body from rfl,Y] at this;cases this
   obtain ⟨_,p,B⟩:=E v;have V:bh l gK=true:=by rw [Q,v];rfl
   have e:bt c s k=({s with tx:=some {t with tos:=dj t.tos c.most (s.nets || s.known || dY c k.name) k.name}},[cz t.tos c.most (s.nets || s.known || dY c k.name) k.name]):=by unfold bt;rw [if_neg d];simp only [v,m]
   rw [e];have P:dY c k.name=vJ k.name:=by unfold dY;rw [Z,B]
   have J:∀u,Hy {s with tx:=some {t with tos:=u}}=false:=fun u=>by unfold Hy;show (t.body).isSome=false;rw [A];rfl
   by_cases i:t.tos.contains k.name=true
   ·have w:dj t.tos c.most (s.nets || s.known || dY c k.name) k.name=t.tos:=by unfold dj;rw [if_pos i]
    have z:cz t.tos c.most (s.nets || s.known || dY c k.name) k.name=jJ:=by unfold cz;rw [if_pos i];rfl
    rw [w,z];obtain ⟨a,b,f⟩:=ik (l:=l) j (out:=([jJ]:List (List UInt8)).flatten) (by decide);have N:jc x.tos (fL l)=x.tos:=by unfold jc;rw [p,o,if_pos i]
    rw [a,b,f,V,N];exact ⟨dW.of ⟨h.closed,h.over,h.wait,h.known,by rw [J];exact j,o,h.nets,h.may,h.addr⟩,rfl,rfl⟩
   ·by_cases n:(t.tos.length:Int)=c.most
    ·have w:dj t.tos c.most (s.nets || s.known || dY c k.name) k.name=t.tos:=by unfold dj;rw [if_neg i,if_pos n]
     have z:cz t.tos c.most (s.nets || s.known || dY c k.name) k.name=[52,53,50,32,109,97,110,121,13,10]:=by unfold cz;rw [if_neg i,if_pos n]
     have O:({s with tx:=some {t with tos:=t.tos}}:bA)=s:=by rw [show ({t with tos:=t.tos}:mN)=t from rfl,←m]
     rw [w,z,O];exact r ([[52,53,50,32,109,97,110,121,13,10]]:List (List UInt8)).flatten (by decide) (by decide) (by decide) (by omega)
    ·cases D:(s.nets || s.known || dY c k.name) with
     | true=>
      have w:dj t.tos c.most true k.name=t.tos++[k.name]:=by unfold dj;rw [if_neg i,if_neg n,if_pos rfl]
      have z:cz t.tos c.most true k.name=jJ:=by unfold cz;rw [if_neg i,if_neg n,if_pos rfl];rfl
      rw [w,z];obtain ⟨a,b,f⟩:=ik (l:=l) j (out:=([jJ]:List (List UInt8)).flatten) (by decide);have N:jc x.tos (fL l)=t.tos++[k.name]:=by unfold jc;rw [p,o,if_neg i]
      rw [a,b,f,V,N];refine ⟨dW.of ⟨h.closed,h.over,h.wait,h.known,by rw [J];exact j,rfl,h.nets,fun y I=>?_,h.addr⟩,rfl,rfl⟩
      rcases List.mem_append.1 I with I | I
      ·exact h.may y (by rw [o];exact I)
      ·rw [List.mem_singleton.1 I];show tg x k.name=true;unfold tg;rw [P] at D;rw [h.known]
       cases U:s.nets with
       | true=>rw [decide_eq_true (h.nets U)];simp
       | false=>rw [U] at D;revert D;cases s.known <;> cases vJ k.name <;> simp
     | false=>
      have w:dj t.tos c.most false k.name=t.tos:=by unfold dj;rw [if_neg i,if_neg n,if_neg (by decide)]
      have z:cz t.tos c.most false k.name=[53,53,48,32,110,111,13,10]:=by unfold cz;rw [if_neg i,if_neg n,if_neg (by decide)]
      have O:({s with tx:=some {t with tos:=t.tos}}:bA)=s:=by rw [show ({t with tos:=t.tos}:mN)=t from rfl,←m]
      rw [w,z,O];exact r ([[53,53,48,32,110,111,13,10]]:List (List UInt8)).flatten (by decide) (by decide) (by decide) (by omega)
def oA (c:bT) (x:bV) (s:bA) (S:aa) (recs l:List UInt8):Prop:=
 (fy x l (aO c s S recs l false).2.2.2.flatten=[]∧(aO c s S recs l false).2.1=S∧(aO c s S recs l false).2.2.1=recs)∨
 ∃t b,s.tx=some t∧t.body=some b∧l=[46]∧x.tos=t.tos∧fy x l (aO c s S recs l false).2.2.2.flatten=[⟨S.items.length+1,0,[],t.tos,[]⟩]∧(aO c s S recs l false).2.1=S.plus (eH S t.frm t.tos b.text)∧(aO c s S recs l false).2.2.1=recs++fi (dd (eH S t.frm t.tos b.text))∧lq (aO c s S recs l false).2.2.2.flatten=S.items.length+1
theorem pT (D:rO l) (C:c.doms=mj) (h:jV x s):dW (gv x l (aO c s S recs l false).2.2.2.flatten) (if (aO c s S recs l false).1.over then none else some (aO c s S recs l false).1)∧cZ x l (aO c s S recs l false).2.2.2.flatten=false∧oA c x s S recs l:=by
 by_cases f:x.inside=true
 ·obtain ⟨t,j,b,m⟩:∃t,s.tx=some t∧∃b,t.body=some b:=by
   have:=h.inside;rw [f] at this;unfold Hy at this
   cases j:s.tx with
   | none=>rw [j] at this;cases this
   | some t=>
    rw [j,show (some t:Option mN).bind (·.body)=t.body from rfl] at this
    cases m:t.body with
    | none=>rw [m] at this;cases this
    | some b=>exact ⟨t,rfl,b,m⟩
  have i:x.tos=t.tos:=by have:=h.tos;unfold Gx at this;rw [j] at this;exact this
  have p:aO c s S recs l false=dr c s S recs t b l false:=by unfold aO;rw [j];simp only;rw [m]
  unfold oA;rw [p]
  by_cases d:l=[46]
  ·have q:dr c s S recs t b l false=lQ c s S recs t b:=by unfold dr;rw [if_pos d]
   rw [q];have I:∀g,gv x l g={x with inside:=false,tos:=[]}:=fun g=>by unfold gv;simp [f,d]
   have k:dW {x with inside:=false,tos:=[]} (if ({s with tx:=none}:bA).over then none else some {s with tx:=none}):=by
    exact dW.of ⟨h.closed,h.over,h.wait,h.known,rfl,rfl,h.nets,(fun t j=>by cases j),h.addr⟩
   have r:∀g,cP g≠lz→fy x l g=[]∧cZ x l g=false:=fun g E=>by unfold fy cZ;simp [f,d,E]
   rw [I];unfold lQ
   by_cases u:b.bad=true
   ·rw [if_pos u];obtain ⟨n,o⟩:=r ([xH]:List (List UInt8)).flatten (by decide);exact ⟨k,o,.inl ⟨n,rfl,rfl⟩⟩
   ·rw [if_neg u]
    by_cases v:c.size < (b.text.length:Int)
    ·rw [if_pos v];obtain ⟨n,o⟩:=r ([uG]:List (List UInt8)).flatten (by decide);exact ⟨k,o,.inl ⟨n,rfl,rfl⟩⟩
    ·rw [if_neg v]
     by_cases w:oX c recs (eH S t.frm t.tos b.text)=true
     ·rw [if_pos w];have B:([[50,53,48,32,107,101,112,116,32]++Lib.itoa ((S.items.length:Int)+1)++[13,10]]:List (List UInt8)).flatten=[50,53,48,32,107,101,112,116,32]++Lib.itoa ((S.items.length+1:Nat):Int)++[13,10]:=by simp
      have y:cP ([50,53,48,32,107,101,112,116,32]++Lib.itoa ((S.items.length+1:Nat):Int)++[13,10])=lz:=by rw [List.append_assoc];exact oK _ _ _ _ _
      have A:=FY (S.items.length+1);simp only [B];refine ⟨k,?_,.inr ⟨t,b,j,m,d,i,?_,rfl,rfl,A⟩⟩
      ·unfold cZ;simp only [f,d,ne_eq,not_true_eq_false,and_false,if_false,if_true,y,decide_true,Bool.true_and];rw [Bool.not_eq_false',List.all_eq_true];exact h.may
      ·unfold fy;rw [if_pos ⟨f,d,y⟩,A,i]
     ·rw [if_neg w];obtain ⟨n,o⟩:=r ([G6]:List (List UInt8)).flatten (by decide);exact ⟨k,o,.inl ⟨n,rfl,rfl⟩⟩
  ·have q:dr c s S recs t b l false=({s with tx:=some {t with body:=some (b.add l false c.size)}},S,recs,[]):=by unfold dr;rw [if_neg d]
   rw [q];have F:gv x l []=x:=by unfold gv;simp [f,d]
   have G:fy x l []=[]:=by unfold fy;simp [d]
   have H:cZ x l []=false:=by unfold cZ;simp [f,d]
   simp only [List.flatten_nil,F,G,H];exact ⟨dW.of (s:={s with tx:=some {t with body:=some (b.add l false c.size)}}) ⟨h.closed,h.over,h.wait,h.known,by rw [f];rfl,i,h.nets,h.may,h.addr⟩,trivial,.inl ⟨trivial,trivial,trivial⟩⟩
 ·have z:x.inside=false:=by simpa using f
  have p:aO c s S recs l false=((bt c s (bn l false)).1,S,recs,(bt c s (bn l false)).2):=by
   unfold aO
   cases j:s.tx with
   | none=>rfl
   | some t=>
    simp only;have:=h.inside;rw [z] at this;unfold Hy at this;rw [j,show (some t:Option mN).bind (·.body)=t.body from rfl] at this
    cases m:t.body with
    | none=>rfl
    | some b=>rw [m] at this;cases this
  obtain ⟨a,b,e⟩:=E2 D C h z;unfold oA;rw [p];exact ⟨a,e,.inl ⟨b,rfl,rfl⟩⟩
end
end Go.Proofs.YtofpegbpgkkgkaaGreatDoor
