import Derived.Test.YtofpegbpgkkgkaaGreatDoorS34
import Derived.Test.YtofpegbpgkkgkaaGreatDoorS26
import Derived.Test.YtofpegbpgkkgkaaGreatDoorS31
import Derived.Test.YtofpegbpgkkgkaaGreatDoorS16
namespace Go.Proofs.YtofpegbpgkkgkaaGreatDoor
set_option maxHeartbeats 8000000
set_option maxRecDepth 1000000
open Go.RowKit
structure yt [Kn] (E:Nat→Prop) (pp pb mb sb ch:Nat) (c:bT) (w:World) (A:Nat→Prop) (q:Nat→Nat) (vr:Value) (S:aa) (recs:List UInt8) (vw:Value) (s:bA):Prop where
 env:fO E w pp c
 ses:cC w A pp pb sb ch vw [] s
 row:kP w vw s.wait
 bag:eJ w pb mb q vr S recs
 ea:∀k,E k→¬A k
 eb:∀k,E k→¬an w pb mb q vr S k
 ab:∀k,A k→¬an w pb mb q vr S k
 wd:∀g,vw.ownBlock=some g→¬E g∧¬A g∧¬an w pb mb q vr S g
def uQ (w:World) (pb mb:Nat) (A:Nat→Prop) (q:Nat→Nat) (vr:Value) (S:aa) (vw:Value) (k:Nat):Prop:=A k∨an w pb mb q vr S k∨vw.ownBlock=some k
def rN [Kn] (E A:Nat→Prop) (pp pb mb sb ch:Nat) (c:bT) (q:Nat→Nat) (vr:Value) (S:aa) (vw:Value) (w:World) (s':bA) (S':aa) (recs':List UInt8) (w':World):Prop:=
 ∃A' q' vr' vw',yt E pp pb mb sb ch c w' A' q' vr' S' recs' vw' s'∧(∀k,uQ w' pb mb A' q' vr' S' vw' k→uQ w pb mb A q vr S vw k∨w.heap.size≤k)∧aF (uQ w pb mb A q vr S vw) w w'
def iP [Kn] (E:Nat→Prop) (pp pb mb sb ch:Nat) (c:bT) (R:Nat→Prop) (w:World) (x:bA×aa×List UInt8×List UInt8) (wr:World):Prop:=
 ∃A q vr vw v,ft E pp pb mb sb ch w.heap.size c wr A q vr x.2.1 x.2.2.1 vw v x.2.2.2 [] x.1∧(∀k,sH wr pb mb w.heap.size A q vr x.2.1 vw v k→R k∨w.heap.size≤k)∧aF R w wr∧iv c x.1 x.2.1 x.2.2.1
section
variable {E R:Nat→Prop} {pp pb mb sb ch:Nat} {c:bT} {w wr w':World} {A:Nat→Prop} {q:Nat→Nat} {vr:Value} {S:aa} {recs:List UInt8} {vw:Value} {s:bA} {x:bA×aa×List UInt8×List UInt8}
theorem vE {a:Nat} {v:Value} (b:∀k,an w' pb mb q vr S k→an wr pb mb q vr S k) {k:Nat} (h:sH w' pb mb a A q vr S vw v k):sH wr pb mb a A q vr S vw v k:=by
 rcases h with h | h | h
 ·exact .inl h
 ·exact .inr (.inl (b k h))
 ·exact .inr (.inr h)
theorem iP.below [Kn] (h:iP E pp pb mb sb ch c R w x wr) (b:Below wr.heap.size wr w'):iP E pp pb mb sb ch c R w x w':=by
 obtain ⟨A,q,vr,vw,v,d,f,g,i⟩:=h;have a:∀k,an w' pb mb q vr x.2.1 k→an wr pb mb q vr x.2.1 k:=fun k e=>e.imp (fun e=>cI d.bag.inn b e) id;exact ⟨A,q,vr,vw,v,d.below b,fun k j=>f k (vE a j),g.trans (aF.below b) (fun _ _ e=>e),i⟩
theorem iP.over [Kn] (h:iP E pp pb mb sb ch c R w x wr):wr.cell? ⟨sb,7,none⟩=some (.bool x.1.over):=by
 obtain ⟨A,q,vr,vw,v,b,e,f,g⟩:=h;obtain ⟨i,a,d⟩:=b.ses.ex;exact a.cell 7
theorem iP.start [Kn] (h:yt E pp pb mb sb ch c w A q vr S recs vw s) (p:iv c s S recs):iP E pp pb mb sb ch c (uQ w pb mb A q vr S vw) w (s,S,recs,[]) (w.alloc (.cells #[.pointer none,.slice none 0 0] 133)):=by
 have b:Below w.heap.size w (w.alloc (.cells #[.pointer none,.slice none 0 0] 133)):=(Below.refl _ _).alloc (Nat.le_refl _) _;have i:=heap_alloc_new w (.cells #[.pointer none,.slice none 0 0] 133);obtain ⟨W,n⟩:∃W,w.alloc (.cells #[.pointer none,.slice none 0 0] 133)=W:=⟨_,rfl⟩;rw [n] at b i ⊢;have a:∀k,an W pb mb q vr S k→an w pb mb q vr S k:=fun k e=>e.imp (fun e=>cI h.bag.inn b e) id;obtain ⟨j,_⟩:=h.bag.chg (aF.below b:aF (fun _=>False) w W) (fun _ _ e=>e);have f:∀k,an w pb mb q vr S k→k < w.heap.size:=fun k e=>an.lt h.bag e;refine ⟨A,q,vr,vw,.slice none 0 0,⟨h.env.below b,h.ses.below b,br h.row (aF.below b:aF (fun _=>False) w W) (fun _ _ e=>e),j,⟨⟨none,.inl rfl,i⟩,⟨rfl,.inl ⟨rfl,rfl⟩⟩,(by intro e;cases e)⟩,h.ea,fun k e y=>h.eb k e (a k y),fun k e y=>h.ab k e (a k y),?_,?_,(by intro g e;cases e)⟩,?_,aF.below b,p⟩
 ·intro g d;obtain ⟨l,m⟩:=cX h.row d;have:=ah m;exact ⟨(h.wd g d).1,(h.wd g d).2.1,fun y=>(h.wd g d).2.2 (a g y),by omega,(by intro e;cases e)⟩
 ·exact ⟨fun y=>by have:=h.env.lt _ y;omega,fun y=>by have:=h.ses.lt _ y;omega,fun y=>by have:=f _ (a _ y);omega⟩
 ·intro k o
  rcases o with e | e | e | e | e
  ·exact .inl (.inl e)
  ·exact .inl (.inr (.inl (a k e)))
  ·exact .inr (Nat.le_of_eq e.symm)
  ·cases e
  ·exact .inl (.inr (.inr e))
theorem ft.chg [Kn] {B:Nat→Prop} {j:Nat} {v:Value} {d:List UInt8} {l:List (List UInt8)} (h:ft E pp pb mb sb ch j c w A q vr S recs vw v d l s) (i:aF B w w') (n:∀k,E k→¬B k) (f:∀k,sH w pb mb j A q vr S vw v k→¬B k):ft E pp pb mb sb ch j c w' A q vr S recs vw v d l s∧∀k,an w' pb mb q vr S k→an w pb mb q vr S k:=by
 obtain ⟨m,b⟩:=h.bag.chg i (fun k e=>f k (.inr (.inl e)));exact ⟨⟨h.env.chg i n,h.ses.chg i (fun k e=>f k (.inl e)),br h.row i (fun g e=>f g (.inr (.inr (.inr (.inr e))))),m,jI h.bld i (f j (.inr (.inr (.inl rfl)))) (fun g e=>f g (.inr (.inr (.inr (.inl e))))),h.ea,fun k e x=>h.eb k e (b k x),fun k e x=>h.ab k e (b k x),fun g a=>⟨(h.wd g a).1,(h.wd g a).2.1,fun x=>(h.wd g a).2.2.1 (b g x),(h.wd g a).2.2.2⟩,⟨h.ld.1,h.ld.2.1,fun x=>h.ld.2.2 (b _ x)⟩,fun g a=>⟨(h.vd g a).1,(h.vd g a).2.1,fun x=>(h.vd g a).2.2 (b g x)⟩⟩,b⟩
theorem iP.take [Kn] {W:World} (h:iP E pp pb mb sb ch c R w x wr) (t:Below wr.heap.size wr W) (b:UInt8):
  Calls Tryz.prog 66 #[.pointer (some ⟨sb,2,none⟩),.int .u8 (b.toNat:Int)] W fun e w'=>e= .returned (rJ (jG x.1.wait b).2)∧(∀i,aF (fun k=>wr.heap.size≤k∧k < W.heap.size) w' i→iP E pp pb mb sb ch c R w ({x.1 with wait:=(jG x.1.wait b).1},x.2) i)∧W.heap.size≤w'.heap.size∧∀(k:Nat) (C:Array Value) (z:Nat×Nat),W.heap[k]? =some (Obj.cells C 138 z)→w'.heap[k]? =some (Obj.cells C 138 z):=by
 obtain ⟨A,q,vr,vw,v,a,M,D,l⟩:=h;have m:=a.below t;have f:∀k,an W pb mb q vr x.2.1 k→an wr pb mb q vr x.2.1 k:=fun k e=>e.imp (fun e=>cI a.bag.inn t e) id;have d:∀k,sH W pb mb w.heap.size A q vr x.2.1 vw v k→R k∨w.heap.size≤k:=fun k g=>M k (vE f g);have j:aF R w W:=D.trans (aF.below t) (fun _ _ e=>e);obtain ⟨P,o,H⟩:=m.ses.ex;refine (Gr sb (gT pp pb ch vw P x.1) vw x.1.wait b W ⟨o.blk,o.size,rfl,m.row⟩ l.wait m.env.utf (fun e=>?_) (fun e=>?_)).mono ?_
 ·rcases e with e | e
  ·exact a.ea _ a.env.efir (by rw [e];exact a.ses.asb)
  ·exact (a.wd _ e).1 a.env.efir
 ·rcases e with e | e
  ·exact a.ea _ a.env.eacc (by rw [e];exact a.ses.asb)
  ·exact (a.wd _ e).1 a.env.eacc
 ·rintro e Q ⟨rfl,N⟩;obtain ⟨n,I,p,u,B⟩:=m.cut rfl o H N
  have r:∀k,sH Q pb mb w.heap.size A q vr x.2.1 n v k→¬(wr.heap.size≤k∧k < W.heap.size):=fun k g=>by
   rcases g with e | e | e | e | e
   ·have:=a.ses.lt k e;omega
   ·have:=an.lt a.bag (f k (B k e));omega
   ·have:=a.blLt;omega
   ·have:=a.vLt e;omega
   ·rcases u k e with e | e
    ·have:=a.rowLt e;omega
    ·omega
  refine ⟨rfl,fun i G=>?_,p.size,fun k C z e=>p.some_ e (fun y=>?_)⟩
  ·obtain ⟨K,L⟩:=I.chg G (fun k e=>by have:=a.env.lt k e;omega) r;refine ⟨A,q,vr,n,v,K,fun k g=>?_,(j.trans p (fun k g e=>?_)).trans G (fun k g e=>?_),⟨l.tx,l.time,l.len,l.recs,(tP _ _).1⟩⟩
   ·rcases g with e | e | e | e | e
    ·exact d k (.inl e)
    ·exact d k (.inr (.inl (B k (L k e))))
    ·exact d k (.inr (.inr (.inl e)))
    ·exact d k (.inr (.inr (.inr (.inl e))))
    ·rcases u k e with e | e
     ·exact d k (.inr (.inr (.inr (.inr e))))
     ·exact .inr (Nat.le_trans j.size e)
   ·have O:sH W pb mb w.heap.size A q vr x.2.1 vw v k:=by
     rcases e with e | e
     ·exact .inl (by rw [e];exact a.ses.asb)
     ·exact .inr (.inr (.inr (.inr e)))
    exact (d k O).elim id (fun e=>by omega)
   ·have:=D.size;omega
  ·rcases y with y | y
   ·rw [y,o.blk] at e;simp at e
   ·obtain ⟨J,F⟩:=cX m.row y;rw [e] at F;simp at F
theorem CJ {d:World} {bx b a:Nat} {x y:Value} (h:b≤bx∧bx < a):aF (fun k=>b≤k∧k < a) d ((d.setCell ⟨bx,0,none⟩ x).setCell ⟨bx,1,none⟩ y):=(aF.same (((aH.refl _ _).setCell _).setCell _)).mono (fun k _ e=>by rw [e];exact h)
theorem iP.line [Kn] (h:iP E pp pb mb sb ch c R w x wr) (l:List UInt8×Bool) (b:l.1.length≤100∧(l.2=false→ee l.1)) (a:x.2.2.2.length≤1099511627776):
  Calls Tryz.prog 67 #[.pointer (some ⟨sb,0,none⟩),.agg #[.string (bs l.1),.bool l.2],.pointer (some ⟨w.heap.size,0,none⟩)] wr fun e w'=>e= .returned (.tuple #[])∧iP E pp pb mb sb ch c R w ((aO c x.1 x.2.1 x.2.2.1 l.1 l.2).1,(aO c x.1 x.2.1 x.2.2.1 l.1 l.2).2.1,(aO c x.1 x.2.1 x.2.2.1 l.1 l.2).2.2.1,x.2.2.2++(aO c x.1 x.2.1 x.2.2.1 l.1 l.2).2.2.2.flatten) w':=by
 obtain ⟨A,q,vr,vw,v,g,i,j,m⟩:=h;refine (DE g m l.1 l.2 b.1 b.2 a).mono ?_;rintro e B ⟨rfl,o,y,d,f,z,r,t,u⟩;obtain ⟨p,_,_⟩:=j3 g.env.may m l.1 l.2 b.1;refine ⟨rfl,o,y,d,f,z,r,fun k n=>(t k n).elim (i k) (fun e=> .inr (Nat.le_trans j.size e)),j.trans u (fun k n e=>(i k e).elim id (fun e=>by omega)),p⟩
theorem iP.done [Kn] (_:yt E pp pb mb sb ch c w A q vr S recs vw s) (u:iP E pp pb mb sb ch c (uQ w pb mb A q vr S vw) w x wr):
  Calls Tryz.prog 64 #[.pointer (some ⟨w.heap.size,0,none⟩)] wr fun e w'=>e= .returned (.string (bs x.2.2.2))∧rN E A pp pb mb sb ch c q vr S vw w x.1 x.2.1 x.2.2.1 w':=by
 obtain ⟨o,m,f,j,n,a,i,t,v⟩:=u;refine (lC 0 w.heap.size n x.2.2.2 wr a.bld).mono ?_;rintro e z ⟨rfl,b⟩;have r:∀k,an wr pb mb m f x.2.1 k→¬n.ownBlock=some k:=fun k e y=>(a.vd k y).2.2 e;obtain ⟨p,h⟩:=a.bag.chg b r;refine ⟨rfl,o,m,f,j,⟨a.env.chg b (fun k e y=>(a.vd k y).1 e),a.ses.chg b (fun k e y=>(a.vd k y).2.1 e),br a.row b (fun g d y=>(a.wd g d).2.2.2.2 y),p,a.ea,fun k e y=>a.eb k e (h k y),fun k e y=>a.ab k e (h k y),fun g d=>⟨(a.wd g d).1,(a.wd g d).2.1,fun y=>(a.wd g d).2.2.1 (h g y)⟩⟩,fun k l=>?_,t.trans b (fun k l e=>?_)⟩
 ·rcases l with e | e | e
  ·exact i k (.inl e)
  ·exact i k (.inr (.inl (h k e)))
  ·exact i k (.inr (.inr (.inr (.inr e))))
 ·exact (i k (.inr (.inr (.inr (.inl e))))).elim id (fun e=>by omega)
theorem Ft [Kn] (h:yt E pp pb mb sb ch c w A q vr S recs vw s) (hp:iv c s S recs) (a:List UInt8) (hl:a.length≤1048576):
  Calls Tryz.prog 40 #[.pointer (some ⟨sb,0,none⟩),.string (bs a)] w fun e w'=>e= .returned (.string (bs (cH c (s,S,recs,[]) a).2.2.2))∧rN E A pp pb mb sb ch c q vr S vw w (cH c (s,S,recs,[]) a).1 (cH c (s,S,recs,[]) a).2.1 (cH c (s,S,recs,[]) a).2.2.1 w':=by
 have a2:=aI a;have HH:=Lib.hid h;have HS:=Lib.hid (iP.start h hp);obtain ⟨W0,a0⟩:∃W0:World,w.alloc (.cells #[.pointer none,.slice none 0 0] 133)=W0:=⟨_,rfl⟩;rw [a0] at HS
 have Z:Hid (∀k,(cH c (s,S,recs,[]) (a.take k)).2.2.2.length≤1099511627776):=Lib.hid (fun k=>by
  have:=(pP h.env.may (a.take k) (s,S,recs,[]) hp).2;have h2:(a.take k).length≤a.length:=by rw [List.length_take];omega
  have h3:([]:List UInt8).length=0:=rfl;simp only at this
  omega)
 clear h hp;go_enter Tryz.func40,Tryz.ntmps40;go_wp2_with fail
 go_loopw [6,7,8,11] (fun _ _ _ i w'=>∃k:Nat,k≤a.length∧i= .int .i64 k∧Hid (iP E pp pb mb sb ch c (uQ w pb mb A q vr S vw) w (cH c (s,S,recs,[]) (a.take k)) w')) (fun _ _ _ i _=>a.length - (intOf i).toNat)
 case atStart=>exact ⟨0,Nat.zero_le _,rfl,HS⟩
 case round=>
  clear HS;obtain ⟨k,D,rfl,K⟩:=hrel;have ho:=K.out.over;obtain ⟨x,ex⟩:∃x,cH c (s,S,recs,[]) (a.take k)=x:=⟨_,rfl⟩;rw [ex] at K ho;have F:=Lib.hid ex;clear ex
  by_cases a1:k < a.length
  case neg=>
   have t:Hid (cH c (s,S,recs,[]) a=x):=Lib.hid (by rw [←F.out,List.take_of_length_le (by omega)]);have Y:=Lib.hid (iP.done HH.out K.out);go_wp2_with fail
   refine Y.out.mono ?_;rintro e d ⟨rfl,f⟩;have u:=Lib.hid f;clear f;go_wp2_with fail
   go_ret;rw [t.out];exact ⟨rfl,u.out⟩
  case pos=>
   obtain ⟨ov,eo⟩:∃b,x.1.over=b:=⟨_,rfl⟩;rw [eo] at ho;have J:=Lib.hid eo;clear eo
   cases ov with
   | true=>
    have t:Hid (cH c (s,S,recs,[]) a=x):=Lib.hid (by
     have e1:cH c (s,S,recs,[]) a=cH c x (a.drop k):=by
      rw [←F.out];unfold cH;rw [←List.foldl_append,List.take_append_drop]
     rw [e1]
     exact sJ J.out _)
    have Y:=Lib.hid (iP.done HH.out K.out);go_wp2_with fail
    refine Y.out.mono ?_;rintro e d ⟨rfl,f⟩;have u:=Lib.hid f;clear f;go_wp2_with fail
    go_ret;rw [t.out];exact ⟨rfl,u.out⟩
   | false=>
    obtain ⟨b,eb⟩:∃b,a[k]=b:=⟨_,rfl⟩;have T:=E0 a k (by omega);rw [eb] at T;have G:Hid (cH c (s,S,recs,[]) (a.take (k+1))=gC c x b):=Lib.hid (by rw [Bq c _ a k a1,F.out,eb]);have H:=Lib.hid (tP x.1.wait b);have g:=Lib.hid (K.out.take (W:=wr.drew) ((Below.refl _ _).drew) b);have m:=Lib.hid (K.out.take (W:=(wr.alloc (.cells #[.string ⟨#[]⟩,.bool false] 138)).drew) (((Below.refl _ _).alloc (Nat.le_refl _) _).drew) b);have O:Hid ((wr.alloc (.cells #[.string ⟨#[]⟩,.bool false] 138)).drew.heap[wr.heap.size]? =some (.cells #[.string ⟨#[]⟩,.bool false] 138 (0,0))):=Lib.hid (heap_alloc_new wr _);obtain ⟨y,ey⟩:∃y,jG x.1.wait b=y:=⟨_,rfl⟩;have N:=Lib.hid ey;rw [ey] at H g m;clear ey eb;obtain ⟨U,o⟩:=y
    cases o with
    | none=>
     have v:Hid (gC c x b=({x.1 with wait:=U},x.2)):=Lib.hid (by
      unfold gC;rw [J.out,N.out]
      rfl)
     simp only [rJ] at H g m;go_wp2_with fail
     go_region_law (first
      | (go_simp;go_at_call 66;refine g.out.mono ?_;rintro e d ⟨rfl,f,hs,D⟩;have u:=Lib.hid f;clear f D;dsimp only)
      | (go_simp;go_at_call 66;refine m.out.mono ?_;rintro e d ⟨rfl,f,hs,D⟩;have u:=Lib.hid f;have z:=D _ _ _ O.out;have q0:d.cell? ⟨wr.heap.size,0,none⟩=some (.string ⟨#[]⟩):=(by rw [Lib.cell_of_heap z];rfl);have q1:d.cell? ⟨wr.heap.size,1,none⟩=some (.bool false):=(by rw [Lib.cell_of_heap z];rfl);have qf:=fun j=>Lib.frozen_of_heap z j;have P:=Lib.hid z;clear f z D;dsimp only))
     ·have r:=Lib.hid (u.out _ (aF.below ((Below.refl _ d).alloc (Nat.le_refl _) (.cells #[.string ⟨#[]⟩,.bool false] 138))));go_wp2_with fail
      exact ⟨⟨k+1,by omega,by go_num,Lib.hid (by rw [G.out,v.out];exact r.out)⟩,by simp [intOf];omega⟩
     all_goals
      have r:=Lib.hid (u.out _ (CJ (x:= .string ⟨#[]⟩) (y:= .bool false) (bx:=wr.heap.size) ⟨Nat.le_refl _,by simp⟩));go_wp2_with fail
      exact ⟨⟨k+1,by omega,by go_num,Lib.hid (by rw [G.out,v.out];exact r.out)⟩,by simp [intOf];omega⟩
    | some l=>
     obtain ⟨p,n⟩:=l
     have v:Hid (gC c x b=((aO c {x.1 with wait:=U} x.2.1 x.2.2.1 p n).1,(aO c {x.1 with wait:=U} x.2.1 x.2.2.1 p n).2.1,(aO c {x.1 with wait:=U} x.2.1 x.2.2.1 p n).2.2.1,x.2.2.2++(aO c {x.1 with wait:=U} x.2.1 x.2.2.1 p n).2.2.2.flatten)):=Lib.hid (by
      unfold gC;rw [J.out,N.out]
      rfl)
     have L:Hid (x.2.2.2.length≤1099511627776):=Lib.hid (by have:=Z.out k;rw [F.out] at this;exact this);have M:=Lib.hid (H.out.2 (p,n) rfl);simp only [rJ] at H g m;go_wp2_with fail
     go_region_law (first
      | (go_simp;go_at_call 66;refine g.out.mono ?_;rintro e d ⟨rfl,f,hs,D⟩;have u:=Lib.hid f;clear f D;dsimp only)
      | (go_simp;go_at_call 66;refine m.out.mono ?_;rintro e d ⟨rfl,f,hs,D⟩;have u:=Lib.hid f;have z:=D _ _ _ O.out;have q0:d.cell? ⟨wr.heap.size,0,none⟩=some (.string ⟨#[]⟩):=(by rw [Lib.cell_of_heap z];rfl);have q1:d.cell? ⟨wr.heap.size,1,none⟩=some (.bool false):=(by rw [Lib.cell_of_heap z];rfl);have qf:=fun j=>Lib.frozen_of_heap z j;have P:=Lib.hid z;clear f z D;dsimp only))
     ·have Q:Below d.heap.size d (d.alloc (.cells #[.string (bs p),.bool n] 138)):=(Below.refl _ d).alloc (Nat.le_refl _) _;have V:=heap_alloc_new d (.cells #[.string (bs p),.bool n] 138);have r:=u.out _ (aF.below Q);obtain ⟨W9,C⟩:∃W:World,d.alloc (.cells #[.string (bs p),.bool n] 138)=W:=⟨_,rfl⟩;rw [C] at r V ⊢;have c0:W9.cell? ⟨d.heap.size,0,none⟩=some (.string (bs p)):=by rw [Lib.cell_of_heap V];rfl
      have c1:W9.cell? ⟨d.heap.size,1,none⟩=some (.bool n):=by rw [Lib.cell_of_heap V];rfl
      have X:=Lib.hid (r.line (p,n) M.out L.out);clear Q V r C g m;go_wp2_with fail
      refine X.out.mono ?_;rintro e w2 ⟨rfl,B⟩;have I:=Lib.hid B;clear B;go_wp2_with fail
      exact ⟨⟨k+1,by omega,by go_num,Lib.hid (by rw [G.out,v.out];exact I.out)⟩,by simp [intOf];omega⟩
     all_goals
      have S9:aH wr.heap.size d ((d.setCell ⟨wr.heap.size,0,none⟩ (.string (bs p))).setCell ⟨wr.heap.size,1,none⟩ (.bool n)):=((aH.refl _ _).setCell _).setCell _;obtain ⟨c0,c1,_⟩:=pD (x:= .string (bs p)) (y:= .bool n) P.out;have r:=u.out _ (CJ (x:= .string (bs p)) (y:= .bool n) (bx:=wr.heap.size) ⟨Nat.le_refl _,by simp⟩);obtain ⟨W9,C⟩:∃W:World,(d.setCell ⟨wr.heap.size,0,none⟩ (.string (bs p))).setCell ⟨wr.heap.size,1,none⟩ (.bool n)=W:=⟨_,rfl⟩;rw [C] at r c0 c1 ⊢;have X:=Lib.hid (r.line (p,n) M.out L.out);clear S9 r C g m q0 q1 qf;go_wp2_with fail
      refine X.out.mono ?_;rintro e w2 ⟨rfl,B⟩;have I:=Lib.hid B;clear B;go_wp2_with fail
      exact ⟨⟨k+1,by omega,by go_num,Lib.hid (by rw [G.out,v.out];exact I.out)⟩,by simp [intOf];omega⟩
end
def gx (c:bT) (addr:Int):bA:=⟨c.nets.any (iC addr),false,false,false,[],none⟩
def nZ (c:bT):List UInt8:=[50,50,48,32]++cL c++[13,10]
theorem FM {c:bT} (h:iL c=true):∀x∈c.nets,0≤x.2∧x.2≤32:=by
 unfold iL mw at h;simp only [Bool.and_eq_true] at h;obtain ⟨⟨⟨⟨⟨⟨⟨⟨_,_⟩,⟨_,a⟩⟩,_⟩,_⟩,_⟩,_⟩,_⟩,_⟩:=h;intro x b;have:=List.all_eq_true.1 a x b;unfold ph cd at this;simp only [Bool.and_eq_true,decide_eq_true_eq] at this;exact this.1.1
theorem aF.toBelow {B:Nat→Prop} {a b:World} {s:Nat} (h:aF B a b) (c:∀k,B k→s≤k) (f:s≤a.heap.size):Below s a b:=⟨h.still.1,h.still.2.1,h.still.2.2,h.size,fun k d=>h.block k (by omega) (fun e=>by have:=c k e;omega)⟩
theorem qd {w:World} {sb b f:Nat} {C:Array Value} {G:List (List UInt8)} {v:Value} {i:List UInt8} (A:bP w sb b C G) (Y:jb 0 w f v i) (y:sb≠f) (J:b≠f) (X:v.ownBlock≠some sb) (Z:∀l∈G,l.length≤1048576) (K:i.length+G.flatten.length≤140737488355328):
  Calls Tryz.prog 63 #[.pointer (some ⟨sb,0,none⟩),.pointer (some ⟨f,0,none⟩)] w fun e t=>e= .returned (.tuple #[])∧∃d,bP t sb b C []∧jb 0 t f d (i++G.flatten)∧(∀g,d.ownBlock=some g→v.ownBlock=some g∨w.heap.size≤g)∧aF (fun k=>k=b∨k=f∨v.ownBlock=some k) w t:=by
 obtain ⟨sq,r,D⟩:=A.chan
 have F:¬(sb=b∨sb=f∨v.ownBlock=some sb):=fun x=>by
  rcases x with x | x | x
  ·exact A.ne x
  ·exact y x
  ·exact X x
 let Bd:List UInt8→World→Prop:=fun a t=>∃d,jb 0 t f d a∧(∀g,d.ownBlock=some g→v.ownBlock=some g∨w.heap.size≤g)∧aF (fun k=>k=b∨k=f∨v.ownBlock=some k) w t∧∃m q p,t.heap[b]? =some (.chan 3 m false q p false)
 have P:=ya Bd sb b sq r false (.pointer (some ⟨f,0,none⟩)) G i w ?_ ?_ ?_ ⟨v,Y,fun g e=> .inl e,aF.refl _ _,_,_,_,D⟩ D Z K
 ·refine P.mono ?_;rintro e t ⟨rfl,q,p,⟨d,s,u,j,_⟩,c⟩;exact ⟨rfl,d,⟨j.some_ A.blk F,A.size,A.told,q,p,c⟩,s,u,j⟩
 ·rintro a l W ⟨d,s,u,j,m,q,p,c⟩ _ E
  have n:d.ownBlock≠some b:=fun e=>by
   obtain ⟨H,z,y⟩:=gi s.row e;rw [c] at y;cases y
  refine (qM 0 f d a l W s (Nat.zero_le _) E).mono ?_;rintro e Q ⟨⟨rv,rfl⟩,⟨v2,T,U⟩,I,V,O⟩
  have L:aF (fun k=>k=f∨d.ownBlock=some k) W Q:=⟨O,fun k B S=>by
   rw [Array.getElem?_eq_getElem B]
   exact I k _ (Array.getElem?_eq_getElem B) (fun e=>S (.inl e)) (fun e=>S (.inr e)),V⟩
  refine ⟨⟨rv,rfl⟩,⟨v2,T,fun g M=>(U g M).elim (u g) (fun e=> .inr (Nat.le_trans j.size e)),j.trans L (fun k B e=>e.elim (fun e=> .inr (.inl e)) (fun e=>(u k e).elim (fun e=> .inr (.inr e)) (fun e=>absurd B (by omega)))),m,q,p,I b _ c J n⟩,fun o ho=>I b o ho J n⟩
 ·rintro a W ⟨d,s,u,j,_⟩;rw [Lib.cell_of_heap (j.some_ A.blk F)];exact A.told
 ·rintro a W m h q p ⟨d,s,u,j,_⟩ c;have N:b < W.heap.size:=ah c;have R:aH b W (W.setChan b 3 h false q (p+1) false):=⟨by simp [World.setChan],fun k B=>by simp [World.setChan,Array.getElem?_setIfInBounds_ne (Ne.symm B)],⟨rfl,rfl,rfl⟩⟩
  have n:d.ownBlock≠some b:=fun e=>by
   obtain ⟨H,z,y⟩:=gi s.row e;rw [c] at y;cases y
  refine ⟨d,jI s (aF.same R) (fun e=>J e.symm) (fun g M e=>n (by rw [←e];exact M)),u,j.trans (aF.same R) (fun _ _ e=> .inl e),h,q,p+1,Conc.heap_setChan W b 3 h false q (p+1) false N⟩
structure Ax (w W:World) (pp pb sb ch:Nat) (c:bT) (addr:Int):Prop where
 ses:bP W sb ch (gT pp pb ch (.slice none 0 0) (.pointer none) (gx c addr)) []
 sb:w.heap.size≤sb
 ch:w.heap.size≤ch
 below:Below w.heap.size w W
theorem Ax.first {w b:World} {f e:Nat} {c:bT} {a:Int} (d:Below (w.alloc (.chan 3 #[] false 0 0 false)).drew.heap.size (w.alloc (.chan 3 #[] false 0 0 false)).drew b):Ax w (b.alloc (.cells #[.pointer (some ⟨f,0,none⟩),.pointer (some ⟨e,0,none⟩),.slice none 0 0,.chan (some w.heap.size),.bool (c.nets.any (iC a)),.bool false,.bool false,.bool false,.pointer none] 130)) f e b.heap.size w.heap.size c a:=by
 have j:(w.alloc (.chan 3 #[] false 0 0 false)).drew.heap[w.heap.size]? =some (.chan 3 #[] false 0 0 false):=heap_alloc_new w _;have g:Below b.heap.size b (b.alloc (.cells #[.pointer (some ⟨f,0,none⟩),.pointer (some ⟨e,0,none⟩),.slice none 0 0,.chan (some w.heap.size),.bool (c.nets.any (iC a)),.bool false,.bool false,.bool false,.pointer none] 130)):=(Below.refl _ _).alloc (Nat.le_refl _) _;have i:w.heap.size+1≤b.heap.size:=by have:=d.size;simpa using this
 have h:Below w.heap.size w (w.alloc (.chan 3 #[] false 0 0 false)).drew:=((Below.refl _ _).alloc (Nat.le_refl _) _).drew;exact ⟨⟨heap_alloc_new b _,rfl,rfl,0,0,ae g (ae d j)⟩,by omega,Nat.le_refl _,(h.trans (d.mono (by simp))).trans (g.mono (by omega))⟩
theorem Ax.later {w a:World} {f e:Nat} {c:bT} {b:Int} (h:Below w.drew.heap.size w.drew a):Ax w ((a.alloc (.chan 3 #[] false 0 0 false)).alloc (.cells #[.pointer (some ⟨f,0,none⟩),.pointer (some ⟨e,0,none⟩),.slice none 0 0,.chan (some a.heap.size),.bool (c.nets.any (iC b)),.bool false,.bool false,.bool false,.pointer none] 130)) f e (a.heap.size+1) a.heap.size c b:=by
 have k:(a.alloc (.chan 3 #[] false 0 0 false)).heap[a.heap.size]? =some (.chan 3 #[] false 0 0 false):=heap_alloc_new a _;have j:(a.alloc (.chan 3 #[] false 0 0 false)).heap.size=a.heap.size+1:=by simp
 have g:Below a.heap.size a (a.alloc (.chan 3 #[] false 0 0 false)):=(Below.refl _ _).alloc (Nat.le_refl _) _;obtain ⟨W,m⟩:∃W:World,a.alloc (.chan 3 #[] false 0 0 false)=W:=⟨_,rfl⟩;rw [m] at k j g ⊢;have i:Below W.heap.size W (W.alloc (.cells #[.pointer (some ⟨f,0,none⟩),.pointer (some ⟨e,0,none⟩),.slice none 0 0,.chan (some a.heap.size),.bool (c.nets.any (iC b)),.bool false,.bool false,.bool false,.pointer none] 130)):=(Below.refl _ _).alloc (Nat.le_refl _) _;have d:w.heap.size≤a.heap.size:=h.size;have l:Below w.heap.size w w.drew:=(Below.refl _ _).drew;exact ⟨⟨by rw [←j];exact heap_alloc_new W _,rfl,rfl,0,0,ae i k⟩,by omega,d,((l.trans (h.mono (Nat.le_refl _))).trans (g.mono d)).trans (i.mono (by omega))⟩
def CW (pp pb:Nat) (c:bT) (addr:Int) (w:World) (e:Ending) (w':World):Prop:=
 ∃sb ch,e= .returned (.tuple #[.pointer (some ⟨sb,0,none⟩),.string (bs (nZ c))])∧bP w' sb ch (gT pp pb ch (.slice none 0 0) (.pointer none) (gx c addr)) []∧w.heap.size≤sb∧w.heap.size≤ch∧Below w.heap.size w w'
theorem Db {E:Nat→Prop} {d pb:Nat} {c:bT} {w:World} (he:fO E w d c) (h:Int):
  Calls Tryz.prog 37 #[.pointer (some ⟨d,0,none⟩),.pointer (some ⟨pb,0,none⟩),.int .i64 h] w (CW d pb c h w):=by
 obtain ⟨vD,vN,vU,vW,I,_⟩:=he.set;have y0:w.cell? ⟨d,0,none⟩=some (.string c.host):=I.cell 0 (by decide);have y1:w.cell? ⟨d,1,none⟩=some vD:=I.cell 1 (by decide);have y2:w.cell? ⟨d,2,none⟩=some vN:=I.cell 2 (by decide);have y3:w.cell? ⟨d,3,none⟩=some vU:=I.cell 3 (by decide);have y4:w.cell? ⟨d,4,none⟩=some (.int .i64 c.most):=I.cell 4 (by decide);have y5:w.cell? ⟨d,5,none⟩=some (.int .i64 c.size):=I.cell 5 (by decide);have y6:w.cell? ⟨d,6,none⟩=some vW:=I.cell 6 (by decide);have y7:w.cell? ⟨d,7,none⟩=some (.int .i64 c.life):=I.cell 7 (by decide);have y8:w.cell? ⟨d,8,none⟩=some (.int .i64 c.room):=I.cell 8 (by decide);have u:∀(o:Obj) (j:Nat),(w.alloc o).cell? ⟨d,j,none⟩=w.cell? ⟨d,j,none⟩:=fun o j=>World.cell?_of_block (((Below.refl _ w).alloc (Nat.le_refl _) o).block d (he.lt d he.epp));have a0:∀o:Obj,(w.alloc o).cell? ⟨d,0,none⟩=some (.string c.host):=fun o=>(u o 0).trans y0;have a1:∀o:Obj,(w.alloc o).cell? ⟨d,1,none⟩=some (vD):=fun o=>(u o 1).trans y1;have a2:∀o:Obj,(w.alloc o).cell? ⟨d,2,none⟩=some (vN):=fun o=>(u o 2).trans y2;have a3:∀o:Obj,(w.alloc o).cell? ⟨d,3,none⟩=some (vU):=fun o=>(u o 3).trans y3;have a4:∀o:Obj,(w.alloc o).cell? ⟨d,4,none⟩=some (.int .i64 c.most):=fun o=>(u o 4).trans y4;have a5:∀o:Obj,(w.alloc o).cell? ⟨d,5,none⟩=some (.int .i64 c.size):=fun o=>(u o 5).trans y5;have a6:∀o:Obj,(w.alloc o).cell? ⟨d,6,none⟩=some (vW):=fun o=>(u o 6).trans y6;have a7:∀o:Obj,(w.alloc o).cell? ⟨d,7,none⟩=some (.int .i64 c.life):=fun o=>(u o 7).trans y7;have a8:∀o:Obj,(w.alloc o).cell? ⟨d,8,none⟩=some (.int .i64 c.room):=fun o=>(u o 8).trans y8;have b2:Hid (∀W:World,Below w.heap.size w W→Calls Tryz.prog 61 #[.agg #[.string c.host,vD,vN,vU,.int .i64 c.most,.int .i64 c.size,vW,.int .i64 c.life,.int .i64 c.room],.int .i64 h] W fun e w'=>e= .returned (.bool (c.nets.any (iC h)))∧Below W.heap.size W w'):=Lib.hid (fun W hb=>zm c vD vN vU vW h W (I.rows.below hb) I.small.nets (fun x hx=>FM I.may x hx));obtain ⟨i,hi,c0,c1,b5⟩:=info_parts sM;have b6:∀W:World,(Instr.makeChan 124 (.int .i64 3)).run Tryz.prog W= .ok (.chan (some W.heap.size)) (W.alloc (.chan 3 #[] false 0 0 false)):=fun W=>Conc.run_makeChan (n:=3) Tryz.underlying124 hi .i64 (by decide) (by rw [b5];decide);clear I u;have b0:d < w.heap.size:=he.lt d he.epp;have b7:=he.host.2;have J:Hid ((⟨#[50,50,48,32]⟩:ByteArray)++c.host=bs ([50,50,48,32]++cL c)):=Lib.hid (ca [50,50,48,32] (cL c)).symm;have b8:c.host.size=(cL c).length:=by rw [←rz c,aI]
 go_enter Tryz.func37,Tryz.ntmps37;go_wp2_with fail
 go_region_law (first
  | (go_simp;go_at_call 61;refine (b2.out _ (by first | exact (Below.refl _ _).drew | exact ((Below.refl _ _).alloc (Nat.le_refl _) _).drew)).mono ?_;rintro e w1 ⟨rfl,a9⟩;dsimp only))
 all_goals
  have f:Hid (Ax w _ d pb _ _ c h):=Lib.hid (by first | exact Ax.first a9 | exact Ax.later a9);clear a9 b2
 ·
  obtain ⟨b,D⟩:∃W:World,w1.alloc (.cells #[.pointer (some ⟨d,0,none⟩),.pointer (some ⟨pb,0,none⟩),.slice none 0 0,.chan (some w.heap.size),.bool (c.nets.any (iC h)),.bool false,.bool false,.bool false,.pointer none] 130)=W:=⟨_,rfl⟩;rw [D] at f ⊢;have a:=f.out.below;have T:=heap_alloc_new b (.cells #[.pointer none,.slice none 0 0] 133);have v:Below b.heap.size b (b.alloc (.cells #[.pointer none,.slice none 0 0] 133)):=(Below.refl _ _).alloc (Nat.le_refl _) _;obtain ⟨C,P⟩:∃W:World,b.alloc (.cells #[.pointer none,.slice none 0 0] 133)=W:=⟨_,rfl⟩;rw [P] at T v;have y3:C.cell? ⟨d,0,none⟩=some (.string c.host):=((a.trans (v.mono a.size)).cell (by exact b0)).trans y0;have s3:=f.out.ses.chg (aF.below v:aF (fun _=>False) b C) (fun e=>e) (fun e=>e);have l1:=ah f.out.ses.blk;have l2:_ < b.heap.size:=ah f.out.ses.chan.choose_spec.choose_spec;have HT:=Lib.hid (s3.tell (by simp) ([50,50,48,32]++cL c) (by rw [List.length_append];simp;omega));have K:Hid (jb 0 C b.heap.size (.slice none 0 0) []):=Lib.hid ⟨⟨none,.inl rfl,T⟩,⟨rfl,.inl ⟨rfl,rfl⟩⟩,(by intro e;cases e)⟩;have L:=Lib.hid (a.trans (v.mono a.size));have p:b.heap.size≤C.heap.size:=v.size;have A:=Lib.hid l1;have r:=Lib.hid l2;clear a T v s3 l1 l2 D;go_wp2_with fail
  rw [J.out];refine HT.out.mono ?_;rintro e S ⟨rfl,X,m⟩;have U:jb 0 S b.heap.size (.slice none 0 0) []:=jI K.out (aF.same m) (fun e=>by have:=r.out;omega) (by intro g e;cases e);have B:=Lib.hid (qd X U (by have:=A.out;omega) (by have:=r.out;omega) (by intro e;cases e) (by intro l Z;simp at Z;rw [Z];simp;omega) (by simp;omega));have q:=Lib.hid (L.out.trans (m.below f.out.ch));have b4:S.heap.size=C.heap.size:=m.1;clear X m U;go_wp2_with fail
  refine B.out.mono ?_;rintro e w5 ⟨rfl,v5,Y,t,H,F⟩;have R:w.heap.size≤b.heap.size:=f.out.below.size
  have V:=q.out.trans (F.toBelow (s:=w.heap.size) (fun k e=>by
   rcases e with e | e | e
   ·rw [e];exact f.out.ch
   ·rw [e];exact R
   ·cases e) q.out.size)
  have N:=Lib.hid (lC 0 b.heap.size v5 _ w5 t);have O:=Lib.hid H;have M:=Lib.hid Y;have y:=Lib.hid V;have b1:=Lib.hid t;clear Y t H F V B;go_wp2_with fail
  refine N.out.mono ?_;rintro e w6 ⟨rfl,G⟩;have z:=Lib.hid G;clear G;go_wp2_with fail
  go_ret2
  have Q:∀g,v5.ownBlock=some g→S.heap.size≤g:=fun g e=>(O.out g e).elim (fun e=>by cases e) id;refine ⟨_,_,rfl,M.out.chg z.out (fun e=>?_) (fun e=>?_),f.out.sb,f.out.ch,y.out.trans (z.out.toBelow (fun k e=>Nat.le_trans q.out.size (Q k e)) y.out.size)⟩
  ·have:=Q _ e;have:=A.out;have:=p;omega
  ·have:=Q _ e;have:=r.out;have:=p;omega
 ·
  obtain ⟨b,D⟩:∃W:World,w1.alloc (.cells #[.pointer (some ⟨d,0,none⟩),.pointer (some ⟨pb,0,none⟩),.slice none 0 0,.chan (some w.heap.size),.bool (c.nets.any (iC h)),.bool false,.bool false,.bool false,.pointer none] 130)=W:=⟨_,rfl⟩;rw [D] at f ⊢;have a:=f.out.below;have T:=heap_alloc_new b (.cells #[.pointer none,.slice none 0 0] 133);have v:Below b.heap.size b (b.alloc (.cells #[.pointer none,.slice none 0 0] 133)):=(Below.refl _ _).alloc (Nat.le_refl _) _;obtain ⟨C,P⟩:∃W:World,b.alloc (.cells #[.pointer none,.slice none 0 0] 133)=W:=⟨_,rfl⟩;rw [P] at T v;have y3:C.cell? ⟨d,0,none⟩=some (.string c.host):=((a.trans (v.mono a.size)).cell (by exact b0)).trans y0;have s3:=f.out.ses.chg (aF.below v:aF (fun _=>False) b C) (fun e=>e) (fun e=>e);have l1:=ah f.out.ses.blk;have l2:_ < b.heap.size:=ah f.out.ses.chan.choose_spec.choose_spec;have HT:=Lib.hid (s3.tell (by simp) ([50,50,48,32]++cL c) (by rw [List.length_append];simp;omega));have K:Hid (jb 0 C b.heap.size (.slice none 0 0) []):=Lib.hid ⟨⟨none,.inl rfl,T⟩,⟨rfl,.inl ⟨rfl,rfl⟩⟩,(by intro e;cases e)⟩;have L:=Lib.hid (a.trans (v.mono a.size));have p:b.heap.size≤C.heap.size:=v.size;have A:=Lib.hid l1;have r:=Lib.hid l2;clear a T v s3 l1 l2 D;go_wp2_with fail
  rw [J.out];refine HT.out.mono ?_;rintro e S ⟨rfl,X,m⟩;have U:jb 0 S b.heap.size (.slice none 0 0) []:=jI K.out (aF.same m) (fun e=>by have:=r.out;omega) (by intro g e;cases e);have B:=Lib.hid (qd X U (by have:=A.out;omega) (by have:=r.out;omega) (by intro e;cases e) (by intro l Z;simp at Z;rw [Z];simp;omega) (by simp;omega));have q:=Lib.hid (L.out.trans (m.below f.out.ch));have b4:S.heap.size=C.heap.size:=m.1;clear X m U;go_wp2_with fail
  refine B.out.mono ?_;rintro e w5 ⟨rfl,v5,Y,t,H,F⟩;have R:w.heap.size≤b.heap.size:=f.out.below.size
  have V:=q.out.trans (F.toBelow (s:=w.heap.size) (fun k e=>by
   rcases e with e | e | e
   ·rw [e];exact f.out.ch
   ·rw [e];exact R
   ·cases e) q.out.size)
  have N:=Lib.hid (lC 0 b.heap.size v5 _ w5 t);have O:=Lib.hid H;have M:=Lib.hid Y;have y:=Lib.hid V;have b1:=Lib.hid t;clear Y t H F V B;go_wp2_with fail
  refine N.out.mono ?_;rintro e w6 ⟨rfl,G⟩;have z:=Lib.hid G;clear G;go_wp2_with fail
  go_ret2
  have Q:∀g,v5.ownBlock=some g→S.heap.size≤g:=fun g e=>(O.out g e).elim (fun e=>by cases e) id;refine ⟨_,_,rfl,M.out.chg z.out (fun e=>?_) (fun e=>?_),f.out.sb,f.out.ch,y.out.trans (z.out.toBelow (fun k e=>Nat.le_trans q.out.size (Q k e)) y.out.size)⟩
  ·have:=Q _ e;have:=A.out;have:=p;omega
  ·have:=Q _ e;have:=r.out;have:=p;omega
 ·
  obtain ⟨b,D⟩:∃W:World,(w1.alloc (.chan 3 #[] false 0 0 false)).alloc (.cells #[.pointer (some ⟨d,0,none⟩),.pointer (some ⟨pb,0,none⟩),.slice none 0 0,.chan (some w1.heap.size),.bool (c.nets.any (iC h)),.bool false,.bool false,.bool false,.pointer none] 130)=W:=⟨_,rfl⟩;rw [D] at f ⊢;have a:=f.out.below;have T:=heap_alloc_new b (.cells #[.pointer none,.slice none 0 0] 133);have v:Below b.heap.size b (b.alloc (.cells #[.pointer none,.slice none 0 0] 133)):=(Below.refl _ _).alloc (Nat.le_refl _) _;obtain ⟨C,P⟩:∃W:World,b.alloc (.cells #[.pointer none,.slice none 0 0] 133)=W:=⟨_,rfl⟩;rw [P] at T v;have y3:C.cell? ⟨d,0,none⟩=some (.string c.host):=((a.trans (v.mono a.size)).cell (by exact b0)).trans y0;have s3:=f.out.ses.chg (aF.below v:aF (fun _=>False) b C) (fun e=>e) (fun e=>e);have l1:=ah f.out.ses.blk;have l2:_ < b.heap.size:=ah f.out.ses.chan.choose_spec.choose_spec;have HT:=Lib.hid (s3.tell (by simp) ([50,50,48,32]++cL c) (by rw [List.length_append];simp;omega));have K:Hid (jb 0 C b.heap.size (.slice none 0 0) []):=Lib.hid ⟨⟨none,.inl rfl,T⟩,⟨rfl,.inl ⟨rfl,rfl⟩⟩,(by intro e;cases e)⟩;have L:=Lib.hid (a.trans (v.mono a.size));have p:b.heap.size≤C.heap.size:=v.size;have A:=Lib.hid l1;have r:=Lib.hid l2;clear a T v s3 l1 l2 D;go_wp2_with fail
  rw [J.out];refine HT.out.mono ?_;rintro e S ⟨rfl,X,m⟩;have U:jb 0 S b.heap.size (.slice none 0 0) []:=jI K.out (aF.same m) (fun e=>by have:=r.out;omega) (by intro g e;cases e);have B:=Lib.hid (qd X U (by have:=A.out;omega) (by have:=r.out;omega) (by intro e;cases e) (by intro l Z;simp at Z;rw [Z];simp;omega) (by simp;omega));have q:=Lib.hid (L.out.trans (m.below f.out.ch));have b4:S.heap.size=C.heap.size:=m.1;clear X m U;go_wp2_with fail
  refine B.out.mono ?_;rintro e w5 ⟨rfl,v5,Y,t,H,F⟩;have R:w.heap.size≤b.heap.size:=f.out.below.size
  have V:=q.out.trans (F.toBelow (s:=w.heap.size) (fun k e=>by
   rcases e with e | e | e
   ·rw [e];exact f.out.ch
   ·rw [e];exact R
   ·cases e) q.out.size)
  have N:=Lib.hid (lC 0 b.heap.size v5 _ w5 t);have O:=Lib.hid H;have M:=Lib.hid Y;have y:=Lib.hid V;have b1:=Lib.hid t;clear Y t H F V B;go_wp2_with fail
  refine N.out.mono ?_;rintro e w6 ⟨rfl,G⟩;have z:=Lib.hid G;clear G;go_wp2_with fail
  go_ret2
  have Q:∀g,v5.ownBlock=some g→S.heap.size≤g:=fun g e=>(O.out g e).elim (fun e=>by cases e) id;refine ⟨_,_,rfl,M.out.chg z.out (fun e=>?_) (fun e=>?_),f.out.sb,f.out.ch,y.out.trans (z.out.toBelow (fun k e=>Nat.le_trans q.out.size (Q k e)) y.out.size)⟩
  ·have:=Q _ e;have:=A.out;have:=p;omega
  ·have:=Q _ e;have:=r.out;have:=p;omega
structure gJ [Kn] (E:Nat→Prop) (pp pb mb:Nat) (c:bT) (w:World) (q:Nat→Nat) (vr:Value) (S:aa) (recs:List UInt8) (vs:Value) (ps:List Value) (sb ch:Nat) (A:Nat→Prop) (vw:Value) (s:bA):Prop where
 post:dG E pp pb mb c w q vr S recs vs ps
 ses:cC w A pp pb sb ch vw [] s
 wrow:kP w vw s.wait
 ea:∀k,E k→¬A k
 ab:∀k,A k→¬an w pb mb q vr S k
 wd:∀g,vw.ownBlock=some g→¬E g∧¬A g∧¬an w pb mb q vr S g
 sa:∀g,vs.ownBlock=some g→¬A g∧vw.ownBlock≠some g
def ka (w:World) (pb mb:Nat) (A:Nat→Prop) (q:Nat→Nat) (vr:Value) (S:aa) (vw vs:Value) (k:Nat):Prop:=uQ w pb mb A q vr S vw k∨vs.ownBlock=some k
section
variable {E B:Nat→Prop} {pp pb mb:Nat} {c:bT} {w w':World} {q:Nat→Nat} {vr:Value} {S S':aa} {recs recs':List UInt8} {vs:Value} {ps:List Value} {sb ch:Nat} {A:Nat→Prop} {vw:Value} {s s':bA}
theorem gJ.rest [Kn] (h:gJ E pp pb mb c w q vr S recs vs ps sb ch A vw s):yt E pp pb mb sb ch c w A q vr S recs vw s:=⟨h.post.env,h.ses,h.wrow,h.post.bag,h.ea,h.post.eb,h.ab,h.wd⟩
theorem gJ.wlt [Kn] (h:gJ E pp pb mb c w q vr S recs vs ps sb ch A vw s) {g:Nat} (a:vw.ownBlock=some g):g < w.heap.size:=(j6 h.wrow a).2
theorem gJ.olt [Kn] (h:gJ E pp pb mb c w q vr S recs vs ps sb ch A vw s) {k:Nat} (a:ka w pb mb A q vr S vw vs k):k < w.heap.size:=by
 rcases a with (e | e | e) | e
 ·exact h.ses.lt k e
 ·exact an.lt h.post.bag e
 ·exact h.wlt e
 ·exact h.post.slt e
theorem gJ.chg [Kn] (h:gJ E pp pb mb c w q vr S recs vs ps sb ch A vw s) (b:aF B w w') (f:∀k,E k→¬B k) (a:∀k,ka w pb mb A q vr S vw vs k→¬B k):gJ E pp pb mb c w' q vr S recs vs ps sb ch A vw s∧∀k,ka w' pb mb A q vr S vw vs k→ka w pb mb A q vr S vw vs k:=by
 obtain ⟨i,d⟩:=h.post.chg b f (fun k e=>a k (.inl (.inr (.inl e)))) (fun k e=>a k (.inr e));refine ⟨⟨i,h.ses.chg b (fun k e=>a k (.inl (.inl e))),br h.wrow b (fun g e=>a g (.inl (.inr (.inr e)))),h.ea,fun k e x=>h.ab k e (d k x),fun g e=>⟨(h.wd g e).1,(h.wd g e).2.1,fun x=>(h.wd g e).2.2 (d g x)⟩,h.sa⟩,fun k e=>?_⟩
 rcases e with (e | e | e) | e
 ·exact .inl (.inl e)
 ·exact .inl (.inr (.inl (d k e)))
 ·exact .inl (.inr (.inr e))
 ·exact .inr e
theorem gJ.below [Kn] (h:gJ E pp pb mb c w q vr S recs vs ps sb ch A vw s) (a:Below w.heap.size w w'):gJ E pp pb mb c w' q vr S recs vs ps sb ch A vw s∧∀k,ka w' pb mb A q vr S vw vs k→ka w pb mb A q vr S vw vs k:=
 h.chg (aF.below a:aF (fun _=>False) w w') (fun _ _ e=>e) (fun _ _ e=>e)
theorem gJ.heard [Kn] (h:gJ E pp pb mb c w q vr S recs vs ps sb ch A vw s) (u:rN E A pp pb mb sb ch c q vr S vw w s' S' recs' w'):∃i j a b,gJ E pp pb mb c w' j a S' recs' vs ps sb ch i b s'∧(∀k,ka w' pb mb i j a S' b vs k→ka w pb mb A q vr S vw vs k∨w.heap.size≤k)∧aF (ka w pb mb A q vr S vw vs) w w':=by
 obtain ⟨i,j,a,b,d,o,f⟩:=u;obtain ⟨z,D,F,G,v,p⟩:=h.post.set;obtain ⟨C,r,t⟩:=h.post.blk
 have l:∀k,E k→¬uQ w pb mb A q vr S vw k:=fun k e x=>by
  rcases x with x | x | x
  ·exact h.ea k e x
  ·exact h.post.eb k e x
  ·exact (h.wd k x).1 e
 have n:∀g,vs.ownBlock=some g→¬uQ w pb mb A q vr S vw g:=fun g e x=>by
  rcases x with x | x | x
  ·exact (h.sa g e).1 x
  ·exact (h.post.sd g e).2 x
  ·exact (h.sa g e).2 x
 have m:∀g,vs.ownBlock=some g→¬uQ w' pb mb i j a S' b g:=fun g e x=>(o g x).elim (n g e) (fun y=>by have:=h.post.slt e;omega);refine ⟨i,j,a,b,⟨⟨⟨z,D,F,G,v.chg f (fun k e=>l k (p k e).1) (l pp h.post.epp),p⟩,h.post.glo.chg f (fun k e=>l k (h.post.egl k e)),h.post.egl,h.post.gpp,h.post.epp,fun k e=>Nat.lt_of_lt_of_le (h.post.lt k e) f.size,⟨C,f.some_ r (l pp h.post.epp),t⟩,d.bag,br h.post.row f n,d.eb,fun g e=>⟨(h.post.sd g e).1,fun x=>m g e (.inr (.inl x))⟩⟩,d.ses,d.row,d.ea,d.ab,d.wd,fun g e=>⟨fun x=>m g e (.inl x),fun x=>m g e (.inr (.inr x))⟩⟩,fun k e=>?_,f.mono (fun _ _ e=> .inl e)⟩
 rcases e with e | e
 ·exact (o k e).imp .inl id
 ·exact .inl (.inr e)
theorem dG.at [Kn] (h:dG E pp pb mb c w q vr S recs vs ps) {n:Nat} (j:n < ps.length):∃g b a,vs= .slice (some ⟨g,0,none⟩) ps.length b∧w.heap[g]? =some (.cells a 91 (0,0))∧a[n]? =some ps[n]:=by
 rcases h.row.2 with ⟨_,k⟩ | ⟨g,f,a,e,_,i,_,_,_,d⟩
 ·omega
 ·refine ⟨g,f,a,e,i,?_⟩;rw [←Array.getElem?_toList,←List.getElem?_take_of_lt (show n < ps.length * 1 by omega),d,List.getElem?_eq_getElem j]
theorem Hk {w:World} {g a n:Nat} {x:Value} {ps:List Value} (h:w.ownsRow 0 91 1 (.slice (some ⟨g,0,none⟩) ps.length a) ps.length ps) (_:n < ps.length):(w.setCell ⟨g,n,none⟩ x).ownsRow 0 91 1 (.slice (some ⟨g,0,none⟩) ps.length a) ps.length (ps.set n x):=by
 refine ⟨by simp,?_⟩
 rcases h.2 with ⟨e,_⟩ | ⟨o,m,b,e,f,i,j,k,l,d⟩
 ·cases e
 ·injection e with e1 _ e3;injection e1 with e1;injection e1 with e1;subst e1 e3;refine .inr ⟨g,a,b.setIfInBounds n x,rfl,f,heap_setCell_same w g n _ _ x i,j,k,by simp [l],?_⟩
  rw [Array.toList_setIfInBounds,List.take_set,d]
theorem dG.put [Kn] (h:dG E pp pb mb c w q vr S recs vs ps) {g f n:Nat} {x:Value} (j:vs= .slice (some ⟨g,0,none⟩) ps.length f) (t:n < ps.length):dG E pp pb mb c (w.setCell ⟨g,n,none⟩ x) q vr S recs vs (ps.set n x)∧(∀k,an (w.setCell ⟨g,n,none⟩ x) pb mb q vr S k→an w pb mb q vr S k)∧aF (fun k=>k=g) w (w.setCell ⟨g,n,none⟩ x):=by
 have a:aF (fun k=>k=g) w (w.setCell ⟨g,n,none⟩ x):=aF.same ((aH.refl _ _).setCell _);have b:vs.ownBlock=some g:=by rw [j];rfl
 have d:∀k,E k→¬k=g:=fun k e x=>(h.sd g b).1 (by rw [←x];exact e);obtain ⟨y,z,D,F,v,o⟩:=h.set;obtain ⟨C,p,r⟩:=h.blk;obtain ⟨u,l⟩:=h.bag.chg a (fun k e x=>(h.sd g b).2 (by rw [←x];exact e));have m:=h.row;rw [j] at m;have i:=Hk (x:=x) m t;refine ⟨⟨⟨y,z,D,F,v.chg a (fun k e=>d k (o k e).1) (d pp h.epp),o⟩,h.glo.chg a (fun k e=>d k (h.egl k e)),h.egl,h.gpp,h.epp,fun k e=>Nat.lt_of_lt_of_le (h.lt k e) a.size,⟨C,a.some_ p (d pp h.epp),r⟩,u,?_,fun k e x=>h.eb k e (l k x),fun g e=>⟨(h.sd g e).1,fun x=>(h.sd g e).2 (l g x)⟩⟩,l,a⟩;rw [j,List.length_set];exact i
theorem gJ.put [Kn] (h:gJ E pp pb mb c w q vr S recs vs ps sb ch A vw s) {g b n:Nat} {x:Value} (i:vs= .slice (some ⟨g,0,none⟩) ps.length b) (j:n < ps.length):gJ E pp pb mb c (w.setCell ⟨g,n,none⟩ x) q vr S recs vs (ps.set n x) sb ch A vw s∧(∀k,ka (w.setCell ⟨g,n,none⟩ x) pb mb A q vr S vw vs k→ka w pb mb A q vr S vw vs k)∧aF (ka w pb mb A q vr S vw vs) w (w.setCell ⟨g,n,none⟩ x):=by
 obtain ⟨l,f,d⟩:=h.post.put (x:=x) i j;have a:vs.ownBlock=some g:=by rw [i];rfl
 refine ⟨⟨l,h.ses.chg d (fun k e x=>(h.sa g a).1 (by rw [←x];exact e)),br h.wrow d (fun k e x=>(h.sa g a).2 (by rw [←x];exact e)),h.ea,fun k e x=>h.ab k e (f k x),fun g e=>⟨(h.wd g e).1,(h.wd g e).2.1,fun x=>(h.wd g e).2.2 (f g x)⟩,h.sa⟩,fun k e=>?_,d.mono (fun k _ e=> .inr (by rw [e];exact a))⟩
 rcases e with (e | e | e) | e
 ·exact .inl (.inl e)
 ·exact .inl (.inr (.inl (f k e)))
 ·exact .inl (.inr (.inr e))
 ·exact .inr e
end
structure dQ where
 sb:Nat
 ch:Nat
 A:Nat→Prop
 vw:Value
 s:bA
def dQ.own (x:dQ) (k:Nat):Prop:=x.A k∨x.vw.ownBlock=some k
def fk:Option dQ→Value
 | none=> .pointer none
 | some x=> .pointer (some ⟨x.sb,0,none⟩)
structure qi (E:Nat→Prop) (pp pb mb:Nat) (c:bT) (w:World) (q:Nat→Nat) (vr:Value) (S:aa) (recs:List UInt8) (vs:Value) (x:dQ):Prop where
 ses:cC w x.A pp pb x.sb x.ch x.vw [] x.s
 row:kP w x.vw x.s.wait
 inv:iv c x.s S recs
 fe:∀k,x.own k→¬E k
 fb:∀k,x.own k→¬an w pb mb q vr S k
 fs:∀k,x.own k→vs.ownBlock≠some k
 fw:∀k,x.vw.ownBlock=some k→¬x.A k
structure bJ [Kn] (E:Nat→Prop) (pp pb mb:Nat) (c:bT) (w:World) (q:Nat→Nat) (vr:Value) (S:aa) (recs:List UInt8) (vs:Value) (l:List (Option dQ)):Prop where
 post:dG E pp pb mb c w q vr S recs vs (l.map fk)
 ok:∀(n:Nat) (x:dQ),l[n]? =some (some x)→qi E pp pb mb c w q vr S recs vs x
 apart:∀(n m:Nat) (x y:dQ),n≠m→l[n]? =some (some x)→l[m]? =some (some y)→∀k,x.own k→¬y.own k
 len:l.length≤100
 keep:S.time≤1000000000∧yq S recs∧S.Ok
def dP (w:World) (pb mb:Nat) (q:Nat→Nat) (vr:Value) (S:aa) (vs:Value) (l:List (Option dQ)) (k:Nat):Prop:=an w pb mb q vr S k∨vs.ownBlock=some k∨∃(n:Nat) (x:dQ),l[n]? =some (some x)∧x.own k
section
variable {E B:Nat→Prop} {pp pb mb:Nat} {c:bT} {w w':World} {q:Nat→Nat} {vr:Value} {S:aa} {recs:List UInt8} {vs:Value} {l:List (Option dQ)} {x:dQ}
theorem qi.chg (h:qi E pp pb mb c w q vr S recs vs x) (b:aF B w w') (a:∀k,x.own k→¬B k) (d:∀k,an w' pb mb q vr S k→an w pb mb q vr S k):qi E pp pb mb c w' q vr S recs vs x:=
 ⟨h.ses.chg b (fun k e=>a k (.inl e)),br h.row b (fun k e=>a k (.inr e)),h.inv,h.fe,fun k e y=>h.fb k e (d k y),h.fs,h.fw⟩
theorem qi.lt (h:qi E pp pb mb c w q vr S recs vs x) {k:Nat} (e:x.own k):k < w.heap.size:=e.elim (h.ses.lt k) (fun e=>(j6 h.row e).2)
theorem bJ.olt [Kn] (h:bJ E pp pb mb c w q vr S recs vs l) {k:Nat} (d:dP w pb mb q vr S vs l k):k < w.heap.size:=by
 rcases d with e | e | ⟨n,x,a,b⟩
 ·exact an.lt h.post.bag e
 ·exact h.post.slt e
 ·exact (h.ok n x a).lt b
theorem bJ.eo [Kn] (h:bJ E pp pb mb c w q vr S recs vs l) {k:Nat} (e:E k):¬dP w pb mb q vr S vs l k:=fun x=>by
 rcases x with x | x | ⟨n,y,a,b⟩
 ·exact h.post.eb k e x
 ·exact (h.post.sd k x).1 e
 ·exact (h.ok n y a).fe k b e
theorem bJ.chg [Kn] (h:bJ E pp pb mb c w q vr S recs vs l) (b:aF B w w') (f:∀k,E k→¬B k) (a:∀k,dP w pb mb q vr S vs l k→¬B k):bJ E pp pb mb c w' q vr S recs vs l∧∀k,dP w' pb mb q vr S vs l k→dP w pb mb q vr S vs l k:=by
 obtain ⟨g,d⟩:=h.post.chg b f (fun k e=>a k (.inl e)) (fun k e=>a k (.inr (.inl e)));exact ⟨⟨g,fun n x e=>(h.ok n x e).chg b (fun k y=>a k (.inr (.inr ⟨n,x,e,y⟩))) d,h.apart,h.len,h.keep⟩,fun k e=>e.imp (d k) id⟩
theorem bJ.below [Kn] (h:bJ E pp pb mb c w q vr S recs vs l) (a:Below w.heap.size w w'):bJ E pp pb mb c w' q vr S recs vs l∧∀k,dP w' pb mb q vr S vs l k→dP w pb mb q vr S vs l k:=
 h.chg (aF.below a:aF (fun _=>False) w w') (fun _ _ e=>e) (fun _ _ e=>e)
theorem bJ.one [Kn] (h:bJ E pp pb mb c w q vr S recs vs l) {n:Nat} (a:l[n]? =some (some x)):gJ E pp pb mb c w q vr S recs vs (l.map fk) x.sb x.ch x.A x.vw x.s:=by
 have o:=h.ok n x a;exact ⟨h.post,o.ses,o.row,fun k e y=>o.fe k (.inl y) e,fun k e y=>o.fb k (.inl e) y,fun g e=>⟨o.fe g (.inr e),o.fw g e,o.fb g (.inr e)⟩,fun g e=>⟨fun y=>o.fs g (.inl y) e,fun y=>o.fs g (.inr y) e⟩⟩
theorem CR {l:List (Option dQ)} (n:Nat) (v:Option dQ):(l.set n v).map fk=(l.map fk).set n (fk v):=by rw [List.map_set]
theorem pX {l:List (Option dQ)} {n m:Nat} {v:Option dQ} {y:dQ} (h:(l.set n v)[m]? =some (some y)):(m=n∧v=some y)∨(m≠n∧l[m]? =some (some y)):=by
 by_cases e:n=m
 ·subst e
  by_cases a:n < l.length
  ·rw [List.getElem?_set_self a] at h;exact .inl ⟨rfl,by injection h⟩
  ·rw [List.getElem?_eq_none (by simp;omega)] at h
   cases h
 ·rw [List.getElem?_set_ne e] at h;exact .inr ⟨Ne.symm e,h⟩
theorem bJ.heard [Kn] {t:aa} {d:List UInt8} {D:Nat→Prop} {H:Nat→Nat} {g i:Value} {L:bA} (h:bJ E pp pb mb c w q vr S recs vs l) {n:Nat} (K:l[n]? =some (some x)) (u:iv c L t d) {v:Option dQ} (a:v=some ⟨x.sb,x.ch,D,i,L⟩∨v=none) (p:gJ E pp pb mb c w' H g t d vs ((l.map fk).set n (fk v)) x.sb x.ch D i L) (Q:∀k,ka w' pb mb D H g t i vs k→ka w pb mb x.A q vr S x.vw vs k∨w.heap.size≤k) (P:aF (ka w pb mb x.A q vr S x.vw vs) w w'):bJ E pp pb mb c w' H g t d vs (l.set n v)∧(∀k,dP w' pb mb H g t vs (l.set n v) k→dP w pb mb q vr S vs l k∨w.heap.size≤k)∧aF (dP w pb mb q vr S vs l) w w':=by
 have Y:=h.ok n x K
 have A:∀(m:Nat) (y:dQ),m≠n→l[m]? =some (some y)→∀k,y.own k→¬ka w pb mb x.A q vr S x.vw vs k:=fun m y s b k e z=>by
  have r:=h.ok m y b
  rcases z with (z | z | z) | z
  ·exact h.apart m n y x s b K k e (.inl z)
  ·exact r.fb k e z
  ·exact h.apart m n y x s b K k e (.inr z)
  ·exact r.fs k e z
 have j:∀(m:Nat) (y:dQ),m≠n→l[m]? =some (some y)→∀k,y.own k→¬ka w' pb mb D H g t i vs k:=fun m y s b k e z=>(Q k z).elim (A m y s b k e) (fun z=>by have:=(h.ok m y b).lt e;omega);have o:∀k,(dQ.mk x.sb x.ch D i L).own k→ka w' pb mb D H g t i vs k:=fun k e=>e.elim (fun e=> .inl (.inl e)) (fun e=> .inl (.inr (.inr e)))
 have C:∀k,ka w pb mb x.A q vr S x.vw vs k→dP w pb mb q vr S vs l k:=fun k e=>by
  rcases e with (e | e | e) | e
  ·exact .inr (.inr ⟨n,x,K,.inl e⟩)
  ·exact .inl e
  ·exact .inr (.inr ⟨n,x,K,.inr e⟩)
  ·exact .inr (.inl e)
 refine ⟨⟨by rw [CR];exact p.post,fun m y b=>?_,fun T U V W J X R k N O=>?_,by rw [List.length_set];exact h.len,⟨u.time,u.len,u.recs⟩⟩,fun k e=>?_,P.mono (fun k _ e=>C k e)⟩
 ·rcases pX b with ⟨_,e⟩ | ⟨s,b⟩
  ·rcases a with a | a
   ·rw [a] at e;injection e with e;subst e;exact ⟨p.ses,p.wrow,u,fun k e y=>e.elim (fun e=>p.ea k y e) (fun e=>(p.wd k e).1 y),fun k e y=>e.elim (fun e=>p.ab k e y) (fun e=>(p.wd k e).2.2 y),fun k e y=>e.elim (fun e=>(p.sa k y).1 e) (fun e=>(p.sa k y).2 e),fun k e=>(p.wd k e).2.1⟩
   ·rw [a] at e;cases e
  ·have r:=h.ok m y b;exact ⟨r.ses.chg P (fun k e=>A m y s b k (.inl e)),br r.row P (fun k e=>A m y s b k (.inr e)),⟨r.inv.tx,u.time,u.len,u.recs,r.inv.wait⟩,r.fe,fun k e z=>j m y s b k e (.inl (.inr (.inl z))),r.fs,r.fw⟩
 ·rcases pX X with ⟨M,F⟩ | ⟨M,g1⟩
  ·rcases pX R with ⟨I,_⟩ | ⟨I,g2⟩
   ·exact J (M.trans I.symm)
   ·rcases a with a | a
    ·rw [a] at F;injection F with F;subst F;exact j U W I g2 k O (o k N)
    ·rw [a] at F;cases F
  ·rcases pX R with ⟨I,G⟩ | ⟨I,g2⟩
   ·rcases a with a | a
    ·rw [a] at G;injection G with G;subst G;exact j T V M g1 k N (o k O)
    ·rw [a] at G;cases G
   ·exact h.apart T U V W J g1 g2 k N O
 ·rcases e with e | e | ⟨m,y,b,e⟩
  ·exact (Q k (.inl (.inr (.inl e)))).imp (C k) id
  ·exact .inl (.inr (.inl e))
  ·rcases pX b with ⟨_,f⟩ | ⟨s,b⟩
   ·rcases a with a | a
    ·rw [a] at f;injection f with f;subst f;exact (Q k (o k e)).imp (C k) id
    ·rw [a] at f;cases f
   ·exact .inl (.inr (.inr ⟨m,y,b,e⟩))
end
open Go.ChangeMaps (setBlock)
theorem F6 (l:List (Nat×List UInt8)):∀u∈aL l,u.oneCell'=true:=by
 intro u a;unfold aL at a;obtain ⟨x,_,b⟩:=List.mem_flatMap.1 a;simp only [List.mem_cons,List.not_mem_nil,or_false] at b
 rcases b with rfl | rfl <;> rfl
theorem AN (l:List (Nat×List UInt8)) (v:Value) (w:World) (h:aZ w v l.length 2 (aL l)) (J:l.length≤255):
  Calls Tryz.prog 82 #[v] w fun e A=>∃a c,e= .returned (.slice a l.length c)∧A.ownsRow w.heap.size 162 2 (.slice a l.length c) l.length (aL l)∧Below w.heap.size w A:=by
 obtain ⟨a,f,G⟩:=aE h;subst G
 cases a with
 | none=>
  have i:l.length=0:=by
   rcases h.2 with ⟨i,_⟩ | ⟨b,H,r,e,_⟩
   ·exact i
   ·cases e
  have m:l=[]:=List.length_eq_zero_iff.1 i;subst m;clear h;have I:=fun (w:World) (a:Option Addr) (n c o d:Nat)=>Lib.run_eql_slice_nil (P:=Tryz.prog) w 102 _ a n c o d Tryz.underlying102;go_enter Tryz.func82,Tryz.ntmps82;go_wp2_with fail
  go_ret;exact ⟨none,0,rfl,World.ownsRow_nil _ _ _ _,Below.refl _ _⟩
 | some a=>
  have z:(w.alloc (.cells #[] 162)).heap[w.heap.size]? =some (.cells #[] 162 (0,0)):=heap_alloc_new w _;obtain ⟨g,F,p,y,x,t,j⟩:=jY (P:=Tryz.prog) (w.alloc (.cells #[] 162)) 102 102 162 (.agg #[.int .i64 0,.string ⟨#[]⟩]) 2 24 Tryz.underlying102 kY rfl (by decide) w.heap.size z (.slice (some a) l.length f) l.length (aL l) (h.below ((Below.refl _ _).alloc (Nat.le_refl _) _)) (F6 l) (by unfold maxLen;omega) (by omega);have s:Below w.heap.size w p:=((Below.refl w.heap.size w).alloc (Nat.le_refl _) _).grown t (by simp) (fun k u=>by injection u with u;omega);have E:=Lib.hid y;have C:=Lib.hid x;have B:=Lib.hid s;clear y x s t j z h;have I:=fun (w:World) (a:Option Addr) (n c o d:Nat)=>Lib.run_eql_slice_nil (P:=Tryz.prog) w 102 _ a n c o d Tryz.underlying102;go_enter Tryz.func82,Tryz.ntmps82
  go_wp2_with (first
   | (at_builtin;refine bH rfl _ _ 102 rfl _ _ (.slice (some ⟨g,0,none⟩) l.length F) p rfl rfl E.out ?_)
   | fail)
  go_ret;exact ⟨_,_,rfl,C.out,B.out⟩
structure CC (w W:World) (mb:Nat) (q:Nat→Nat) (S:aa) (D:Nat→Int×Int) (seen:Array Nat) (v:Value) (L:List Nat):Prop where
 below:Below w.heap.size w W
 big:w.heap.size+2≤W.heap.size
 out:W.heap[w.heap.size]? =some (.cells #[.int .i64 0,.string ⟨#[]⟩,.slice none 0 0,.string ⟨#[]⟩] 104 (0,0))
 it:W.heap[w.heap.size+1]? =some (.mapIter (some mb) S.items.length seen S.items.length)
 row:W.ownsRow 0 3 1 v L.length ((ie L).map fun (i:Int)=> .int .i64 i)
 own:∀k,v.ownBlock=some k→w.heap.size+2≤k
 mem:∀i∈L,i∈S.live∧(D i).1≤S.time
 all:∀i∈S.live,seen.contains i=true→(D i).1≤S.time→i∈L
 cnt:L.length+(Go.leftOf (cF q S.live) seen).size≤S.live.length
section
variable {w W W':World} {mb:Nat} {q:Nat→Nat} {S:aa} {D:Nat→Int×Int} {seen:Array Nat} {v v':Value} {L:List Nat}
theorem CC.keep (h:CC w W mb q S D seen v L) (a:Below W.heap.size W W'):CC w W' mb q S D seen v L:=
 ⟨h.below.trans (a.mono (by have:=h.big;omega)),Nat.le_trans h.big a.size,ae a h.out,ae a h.it,ax h.row fun _ _ e _=>ae a e,h.own,h.mem,h.all,h.cnt⟩
theorem CC.step (h:CC w W mb q S D seen v L) {i:Nat} (m:mO q i∈(Go.leftOf (cF q S.live) seen).toList) (l:¬(D i).1≤S.time):CC w (setBlock W (w.heap.size+1) (.mapIter (some mb) S.items.length (seen.push i) S.items.length)) mb q S D (seen.push i) v L:=by
 have c:=jO W (w.heap.size+1) (.mapIter (some mb) S.items.length (seen.push i) S.items.length);have d:=mR m;have d:(Go.leftOf (cF q S.live) (seen.push i)).size < (Go.leftOf (cF q S.live) seen).size:=d;refine ⟨h.below.trans (c.below (by omega)),by rw [c.1];exact h.big,aJ c h.out (by omega),rF (ah h.it) _,ax h.row fun g f e _=>aJ c e fun k=>?_,h.own,h.mem,fun j n b a=>?_,by have:=h.cnt;omega⟩
 ·rw [k,h.it] at e;simp at e
 ·rw [Array.contains_push,Bool.or_eq_true] at b
  rcases b with b | b
  ·exact h.all j n b a
  ·have:j=i:=by simpa using b
   rw [this] at a;exact absurd a l
theorem CC.plus (h:CC w W mb q S D seen v L) {i:Nat} (H:i∈S.live) (G:mO q i∈(Go.leftOf (cF q S.live) seen).toList) (F:(D i).1≤S.time) {b s:World} (A:b=W∨b=W.drew) (r:aH (w.heap.size+1) b (setBlock b (w.heap.size+1) (.mapIter (some mb) S.items.length (seen.push i) S.items.length))) (m:Below (setBlock b (w.heap.size+1) (.mapIter (some mb) S.items.length (seen.push i) S.items.length)).heap.size (setBlock b (w.heap.size+1) (.mapIter (some mb) S.items.length (seen.push i) S.items.length)) W') (p:aF (fun k=>v.ownBlock=some k) W' s) (C:s.ownsRow 0 3 1 v' (L.length+1) (((ie L).map fun (i:Int)=> .int .i64 i)++[.int .i64 ((i:Int)+1)])) (I:∀g,v'.ownBlock=some g→v.ownBlock=some g∨W'.heap.size≤g):CC w s mb q S D (seen.push i) v' (L++[i]):=by
 have B:=mR G;have B:(Go.leftOf (cF q S.live) (seen.push i)).size < (Go.leftOf (cF q S.live) seen).size:=B;have z:b.heap=W.heap:=by rcases A with e | e <;> rw [e];rfl
 have y:w.heap.size+2≤b.heap.size:=by rw [z];exact h.big
 have E:Below w.heap.size w b:=by rcases A with e | e <;> rw [e];exact h.below;exact h.below.drew
 obtain ⟨o,l⟩:∃o,setBlock b (w.heap.size+1) (.mapIter (some mb) S.items.length (seen.push i) S.items.length)=o:=⟨_,rfl⟩;have x:o.heap[w.heap.size+1]? =some (.mapIter (some mb) S.items.length (seen.push i) S.items.length):=by rw [←l];exact rF (by omega) _
 rw [l] at r m;have J:=r.1;have f:w.heap.size+2≤W'.heap.size:=by have:=m.size;omega
 have c:∀k,k < w.heap.size+2→¬v.ownBlock=some k:=fun k K e=>by have:=h.own k e;omega
 have n:o.heap[w.heap.size]? =some (.cells #[.int .i64 0,.string ⟨#[]⟩,.slice none 0 0,.string ⟨#[]⟩] 104 (0,0)):=aJ r (by rw [z];exact h.out) (by omega);have t:Below w.heap.size w W':=(E.trans (r.below (by omega))).trans (m.mono (by omega));refine ⟨t.trans ?_,Nat.le_trans f p.size,p.some_ (ae m n) (c _ (by omega)),p.some_ (ae m x) (c _ (by omega)),?_,fun k e=>(I k e).elim (h.own k) (fun e=>by omega),fun j d=>?_,fun j d a u=>?_,by rw [List.length_append];have:=h.cnt;simp only [List.length_cons,List.length_nil];omega⟩
 ·exact p.toBelow (fun k e=>by have:=h.own k e;omega) (by omega)
 ·rw [List.length_append];unfold ie at C ⊢;rw [List.map_append,List.map_append];exact C
 ·rw [List.mem_append,List.mem_singleton] at d
  rcases d with d | rfl
  ·exact h.mem j d
  ·exact ⟨H,F⟩
 ·rw [Array.contains_push,Bool.or_eq_true] at a;rw [List.mem_append,List.mem_singleton]
  rcases a with a | a
  ·exact .inl (h.all j d a u)
  ·exact .inr (by simpa using a)
end
end Go.Proofs.YtofpegbpgkkgkaaGreatDoor
