import Derived.Test.YtofpegbpgkkgkaaGreatDoorS22
import Derived.Test.YtofpegbpgkkgkaaGreatDoorS24
namespace Go.Proofs.YtofpegbpgkkgkaaGreatDoor
set_option maxHeartbeats 8000000
set_option maxRecDepth 1000000
open Go.RowKit
structure zS [Kn] (E:Nat→Prop) (pp pb mb sb ch:Nat) (c:bX) (w:World) (A:Nat→Prop) (q:Nat→Nat) (vr:Value) (S:bp) (recs:List UInt8) (vw:Value) (s:bG):Prop where
 env:gg E w pp c
 ses:cI w A pp pb sb ch vw [] s
 row:lF w vw s.wait
 bag:fv w pb mb q vr S recs
 ea:∀k,E k→¬A k
 eb:∀k,E k→¬an w pb mb q vr S k
 ab:∀k,A k→¬an w pb mb q vr S k
 wd:∀g,vw.ownBlock=some g→¬E g∧¬A g∧¬an w pb mb q vr S g
def wY (w:World) (pb mb:Nat) (A:Nat→Prop) (q:Nat→Nat) (vr:Value) (S:bp) (vw:Value) (k:Nat):Prop:=A k∨an w pb mb q vr S k∨vw.ownBlock=some k
def tq [Kn] (E A:Nat→Prop) (pp pb mb sb ch:Nat) (c:bX) (q:Nat→Nat) (vr:Value) (S:bp) (vw:Value) (w:World) (s':bG) (S':bp) (recs':List UInt8) (w':World):Prop:=
 ∃A' q' vr' vw',zS E pp pb mb sb ch c w' A' q' vr' S' recs' vw' s'∧(∀k,wY w' pb mb A' q' vr' S' vw' k→wY w pb mb A q vr S vw k∨w.heap.size≤k)∧aH (wY w pb mb A q vr S vw) w w'
def jl [Kn] (E:Nat→Prop) (pp pb mb sb ch:Nat) (c:bX) (R:Nat→Prop) (w:World) (x:bG×bp×List UInt8×List UInt8) (wr:World):Prop:=
 ∃A q vr vw v,fG E pp pb mb sb ch w.heap.size c wr A q vr x.2.1 x.2.2.1 vw v x.2.2.2 [] x.1∧(∀k,ug wr pb mb w.heap.size A q vr x.2.1 vw v k→R k∨w.heap.size≤k)∧aH R w wr∧gM c x.1 x.2.1 x.2.2.1
section
variable {E R:Nat→Prop} {pp pb mb sb ch:Nat} {c:bX} {w wr w':World} {A:Nat→Prop} {q:Nat→Nat} {vr:Value} {S:bp} {recs:List UInt8} {vw:Value} {s:bG} {x:bG×bp×List UInt8×List UInt8}
theorem xD {a:Nat} {v:Value} (b:∀k,an w' pb mb q vr S k→an wr pb mb q vr S k) {k:Nat} (h:ug w' pb mb a A q vr S vw v k):ug wr pb mb a A q vr S vw v k:=by
 rcases h with h | h | h
 ·exact .inl h
 ·exact .inr (.inl (b k h))
 ·exact .inr (.inr h)
theorem jl.below [Kn] (h:jl E pp pb mb sb ch c R w x wr) (b:Below wr.heap.size wr w'):jl E pp pb mb sb ch c R w x w':=by
 obtain ⟨A,q,vr,vw,v,d,f,g,i⟩:=h;have a:∀k,an w' pb mb q vr x.2.1 k→an wr pb mb q vr x.2.1 k:=fun k e=>e.imp (fun e=>cR d.bag.inn b e) id;exact ⟨A,q,vr,vw,v,d.below b,fun k j=>f k (xD a j),g.trans (aH.below b) (fun _ _ e=>e),i⟩
theorem jl.over [Kn] (h:jl E pp pb mb sb ch c R w x wr):wr.cell? ⟨sb,7,none⟩=some (.bool x.1.over):=by
 obtain ⟨A,q,vr,vw,v,b,e,f,g⟩:=h;obtain ⟨i,a,d⟩:=b.ses.ex;exact a.cell 7
theorem jl.start [Kn] (h:zS E pp pb mb sb ch c w A q vr S recs vw s) (p:gM c s S recs):jl E pp pb mb sb ch c (wY w pb mb A q vr S vw) w (s,S,recs,[]) (w.alloc (.cells #[.pointer none,.slice none 0 0] 133)):=by
 have b:Below w.heap.size w (w.alloc (.cells #[.pointer none,.slice none 0 0] 133)):=(Below.refl _ _).alloc (Nat.le_refl _) _;have i:=heap_alloc_new w (.cells #[.pointer none,.slice none 0 0] 133);obtain ⟨W,n⟩:∃W,w.alloc (.cells #[.pointer none,.slice none 0 0] 133)=W:=⟨_,rfl⟩;rw [n] at b i ⊢;have a:∀k,an W pb mb q vr S k→an w pb mb q vr S k:=fun k e=>e.imp (fun e=>cR h.bag.inn b e) id;obtain ⟨j,_⟩:=h.bag.chg (aH.below b:aH (fun _=>False) w W) (fun _ _ e=>e);have f:∀k,an w pb mb q vr S k→k < w.heap.size:=fun k e=>an.lt h.bag e;refine ⟨A,q,vr,vw,.slice none 0 0,⟨h.env.below b,h.ses.below b,bC h.row (aH.below b:aH (fun _=>False) w W) (fun _ _ e=>e),j,⟨⟨none,.inl rfl,i⟩,⟨rfl,.inl ⟨rfl,rfl⟩⟩,(by intro e;cases e)⟩,h.ea,fun k e y=>h.eb k e (a k y),fun k e y=>h.ab k e (a k y),?_,?_,(by intro g e;cases e)⟩,?_,aH.below b,p⟩
 ·intro g d;obtain ⟨l,m⟩:=dm h.row d;have:=ah m;exact ⟨(h.wd g d).1,(h.wd g d).2.1,fun y=>(h.wd g d).2.2 (a g y),by omega,(by intro e;cases e)⟩
 ·exact ⟨fun y=>by have:=h.env.lt _ y;omega,fun y=>by have:=h.ses.lt _ y;omega,fun y=>by have:=f _ (a _ y);omega⟩
 ·intro k o
  rcases o with e | e | e | e | e
  ·exact .inl (.inl e)
  ·exact .inl (.inr (.inl (a k e)))
  ·exact .inr (Nat.le_of_eq e.symm)
  ·cases e
  ·exact .inl (.inr (.inr e))
theorem fG.chg [Kn] {B:Nat→Prop} {j:Nat} {v:Value} {d:List UInt8} {l:List (List UInt8)} (h:fG E pp pb mb sb ch j c w A q vr S recs vw v d l s) (i:aH B w w') (n:∀k,E k→¬B k) (f:∀k,ug w pb mb j A q vr S vw v k→¬B k):fG E pp pb mb sb ch j c w' A q vr S recs vw v d l s∧∀k,an w' pb mb q vr S k→an w pb mb q vr S k:=by
 obtain ⟨m,b⟩:=h.bag.chg i (fun k e=>f k (.inr (.inl e)));exact ⟨⟨h.env.chg i n,h.ses.chg i (fun k e=>f k (.inl e)),bC h.row i (fun g e=>f g (.inr (.inr (.inr (.inr e))))),m,j6 h.bld i (f j (.inr (.inr (.inl rfl)))) (fun g e=>f g (.inr (.inr (.inr (.inl e))))),h.ea,fun k e x=>h.eb k e (b k x),fun k e x=>h.ab k e (b k x),fun g a=>⟨(h.wd g a).1,(h.wd g a).2.1,fun x=>(h.wd g a).2.2.1 (b g x),(h.wd g a).2.2.2⟩,⟨h.ld.1,h.ld.2.1,fun x=>h.ld.2.2 (b _ x)⟩,fun g a=>⟨(h.vd g a).1,(h.vd g a).2.1,fun x=>(h.vd g a).2.2 (b g x)⟩⟩,b⟩
theorem jl.take [Kn] {W:World} (h:jl E pp pb mb sb ch c R w x wr) (t:Below wr.heap.size wr W) (b:UInt8):
  Calls Tryz.prog 66 #[.pointer (some ⟨sb,2,none⟩),.int .u8 (b.toNat:Int)] W fun e w'=>e= .returned (th (j4 x.1.wait b).2)∧(∀i,aH (fun k=>wr.heap.size≤k∧k < W.heap.size) w' i→jl E pp pb mb sb ch c R w ({x.1 with wait:=(j4 x.1.wait b).1},x.2) i)∧W.heap.size≤w'.heap.size∧∀(k:Nat) (C:Array Value) (z:Nat×Nat),W.heap[k]? =some (Obj.cells C 138 z)→w'.heap[k]? =some (Obj.cells C 138 z):=by
 obtain ⟨A,q,vr,vw,v,a,M,D,l⟩:=h;have m:=a.below t;have f:∀k,an W pb mb q vr x.2.1 k→an wr pb mb q vr x.2.1 k:=fun k e=>e.imp (fun e=>cR a.bag.inn t e) id;have d:∀k,ug W pb mb w.heap.size A q vr x.2.1 vw v k→R k∨w.heap.size≤k:=fun k g=>M k (xD f g);have j:aH R w W:=D.trans (aH.below t) (fun _ _ e=>e);obtain ⟨P,o,H⟩:=m.ses.ex;refine (IC sb (iq pp pb ch vw P x.1) vw x.1.wait b W ⟨o.blk,o.size,rfl,m.row⟩ l.wait m.env.utf (fun e=>?_) (fun e=>?_)).mono ?_
 ·rcases e with e | e
  ·exact a.ea _ a.env.efir (by rw [e];exact a.ses.asb)
  ·exact (a.wd _ e).1 a.env.efir
 ·rcases e with e | e
  ·exact a.ea _ a.env.eacc (by rw [e];exact a.ses.asb)
  ·exact (a.wd _ e).1 a.env.eacc
 ·rintro e Q ⟨rfl,N⟩;obtain ⟨n,I,p,u,B⟩:=m.cut rfl o H N
  have r:∀k,ug Q pb mb w.heap.size A q vr x.2.1 n v k→¬(wr.heap.size≤k∧k < W.heap.size):=fun k g=>by
   rcases g with e | e | e | e | e
   ·have:=a.ses.lt k e;omega
   ·have:=an.lt a.bag (f k (B k e));omega
   ·have:=a.blLt;omega
   ·have:=a.vLt e;omega
   ·rcases u k e with e | e
    ·have:=a.rowLt e;omega
    ·omega
  refine ⟨rfl,fun i G=>?_,p.size,fun k C z e=>p.some_ e (fun y=>?_)⟩
  ·obtain ⟨K,L⟩:=I.chg G (fun k e=>by have:=a.env.lt k e;omega) r;refine ⟨A,q,vr,n,v,K,fun k g=>?_,(j.trans p (fun k g e=>?_)).trans G (fun k g e=>?_),⟨l.tx,l.time,l.len,l.recs,(vQ _ _).1⟩⟩
   ·rcases g with e | e | e | e | e
    ·exact d k (.inl e)
    ·exact d k (.inr (.inl (B k (L k e))))
    ·exact d k (.inr (.inr (.inl e)))
    ·exact d k (.inr (.inr (.inr (.inl e))))
    ·rcases u k e with e | e
     ·exact d k (.inr (.inr (.inr (.inr e))))
     ·exact .inr (Nat.le_trans j.size e)
   ·have O:ug W pb mb w.heap.size A q vr x.2.1 vw v k:=by
     rcases e with e | e
     ·exact .inl (by rw [e];exact a.ses.asb)
     ·exact .inr (.inr (.inr (.inr e)))
    exact (d k O).elim id (fun e=>by omega)
   ·have:=D.size;omega
  ·rcases y with y | y
   ·rw [y,o.blk] at e;simp at e
   ·obtain ⟨J,F⟩:=dm m.row y;rw [e] at F;simp at F
theorem Ec {d:World} {bx b a:Nat} {x y:Value} (h:b≤bx∧bx < a):aH (fun k=>b≤k∧k < a) d ((d.setCell ⟨bx,0,none⟩ x).setCell ⟨bx,1,none⟩ y):=(aH.same (((aL.refl _ _).setCell _).setCell _)).mono (fun k _ e=>by rw [e];exact h)
theorem jl.line [Kn] (h:jl E pp pb mb sb ch c R w x wr) (l:List UInt8×Bool) (b:l.1.length≤100∧(l.2=false→fp l.1)) (a:x.2.2.2.length≤1099511627776):
  Calls Tryz.prog 67 #[.pointer (some ⟨sb,0,none⟩),.agg #[.string (bs l.1),.bool l.2],.pointer (some ⟨w.heap.size,0,none⟩)] wr fun e w'=>e= .returned (.tuple #[])∧jl E pp pb mb sb ch c R w ((aO c x.1 x.2.1 x.2.2.1 l.1 l.2).1,(aO c x.1 x.2.1 x.2.2.1 l.1 l.2).2.1,(aO c x.1 x.2.1 x.2.2.1 l.1 l.2).2.2.1,x.2.2.2++(aO c x.1 x.2.1 x.2.2.1 l.1 l.2).2.2.2.flatten) w':=by
 obtain ⟨A,q,vr,vw,v,g,i,j,m⟩:=h;refine (E5 g m l.1 l.2 b.1 b.2 a).mono ?_;rintro e B ⟨rfl,o,y,d,f,z,r,t,u⟩;obtain ⟨p,_,_⟩:=iU g.env.may m l.1 l.2 b.1;refine ⟨rfl,o,y,d,f,z,r,fun k n=>(t k n).elim (i k) (fun e=> .inr (Nat.le_trans j.size e)),j.trans u (fun k n e=>(i k e).elim id (fun e=>by omega)),p⟩
theorem jl.done [Kn] (_:zS E pp pb mb sb ch c w A q vr S recs vw s) (u:jl E pp pb mb sb ch c (wY w pb mb A q vr S vw) w x wr):
  Calls Tryz.prog 64 #[.pointer (some ⟨w.heap.size,0,none⟩)] wr fun e w'=>e= .returned (.string (bs x.2.2.2))∧tq E A pp pb mb sb ch c q vr S vw w x.1 x.2.1 x.2.2.1 w':=by
 obtain ⟨o,m,f,j,n,a,i,t,v⟩:=u;refine (mi 0 w.heap.size n x.2.2.2 wr a.bld).mono ?_;rintro e z ⟨rfl,b⟩;have r:∀k,an wr pb mb m f x.2.1 k→¬n.ownBlock=some k:=fun k e y=>(a.vd k y).2.2 e;obtain ⟨p,h⟩:=a.bag.chg b r;refine ⟨rfl,o,m,f,j,⟨a.env.chg b (fun k e y=>(a.vd k y).1 e),a.ses.chg b (fun k e y=>(a.vd k y).2.1 e),bC a.row b (fun g d y=>(a.wd g d).2.2.2.2 y),p,a.ea,fun k e y=>a.eb k e (h k y),fun k e y=>a.ab k e (h k y),fun g d=>⟨(a.wd g d).1,(a.wd g d).2.1,fun y=>(a.wd g d).2.2.1 (h g y)⟩⟩,fun k l=>?_,t.trans b (fun k l e=>?_)⟩
 ·rcases l with e | e | e
  ·exact i k (.inl e)
  ·exact i k (.inr (.inl (h k e)))
  ·exact i k (.inr (.inr (.inr (.inr e))))
 ·exact (i k (.inr (.inr (.inr (.inl e))))).elim id (fun e=>by omega)
theorem GV [Kn] (h:zS E pp pb mb sb ch c w A q vr S recs vw s) (hp:gM c s S recs) (a:List UInt8) (hl:a.length≤1048576):
  Calls Tryz.prog 40 #[.pointer (some ⟨sb,0,none⟩),.string (bs a)] w fun e w'=>e= .returned (.string (bs (cL c (s,S,recs,[]) a).2.2.2))∧tq E A pp pb mb sb ch c q vr S vw w (cL c (s,S,recs,[]) a).1 (cL c (s,S,recs,[]) a).2.1 (cL c (s,S,recs,[]) a).2.2.1 w':=by
 have a2:=aG a;have HH:=Lib.hid h;have HS:=Lib.hid (jl.start h hp);obtain ⟨W0,a0⟩:∃W0:World,w.alloc (.cells #[.pointer none,.slice none 0 0] 133)=W0:=⟨_,rfl⟩;rw [a0] at HS
 have Z:Hid (∀k,(cL c (s,S,recs,[]) (a.take k)).2.2.2.length≤1099511627776):=Lib.hid (fun k=>by
  have:=(qO h.env.may (a.take k) (s,S,recs,[]) hp).2;have h2:(a.take k).length≤a.length:=by rw [List.length_take];omega
  have h3:([]:List UInt8).length=0:=rfl;simp only at this
  omega)
 clear h hp;go_enter Tryz.func40,Tryz.ntmps40;go_wp2_with fail
 go_loopw [6,7,8,11] (fun _ _ _ i w'=>∃k:Nat,k≤a.length∧i= .int .i64 k∧Hid (jl E pp pb mb sb ch c (wY w pb mb A q vr S vw) w (cL c (s,S,recs,[]) (a.take k)) w')) (fun _ _ _ i _=>a.length - (intOf i).toNat)
 case atStart=>exact ⟨0,Nat.zero_le _,rfl,HS⟩
 case round=>
  clear HS;obtain ⟨k,D,rfl,K⟩:=hrel;have ho:=K.out.over;obtain ⟨x,ex⟩:∃x,cL c (s,S,recs,[]) (a.take k)=x:=⟨_,rfl⟩;rw [ex] at K ho;have F:=Lib.hid ex;clear ex
  by_cases a1:k < a.length
  case neg=>
   have t:Hid (cL c (s,S,recs,[]) a=x):=Lib.hid (by rw [←F.out,List.take_of_length_le (by omega)]);have Y:=Lib.hid (jl.done HH.out K.out);go_wp2_with fail
   refine Y.out.mono ?_;rintro e d ⟨rfl,f⟩;have u:=Lib.hid f;clear f;go_wp2_with fail
   go_ret;rw [t.out];exact ⟨rfl,u.out⟩
  case pos=>
   obtain ⟨ov,eo⟩:∃b,x.1.over=b:=⟨_,rfl⟩;rw [eo] at ho;have J:=Lib.hid eo;clear eo
   cases ov with
   | true=>
    have t:Hid (cL c (s,S,recs,[]) a=x):=Lib.hid (by
     have e1:cL c (s,S,recs,[]) a=cL c x (a.drop k):=by
      rw [←F.out];unfold cL;rw [←List.foldl_append,List.take_append_drop]
     rw [e1]
     exact uh J.out _)
    have Y:=Lib.hid (jl.done HH.out K.out);go_wp2_with fail
    refine Y.out.mono ?_;rintro e d ⟨rfl,f⟩;have u:=Lib.hid f;clear f;go_wp2_with fail
    go_ret;rw [t.out];exact ⟨rfl,u.out⟩
   | false=>
    obtain ⟨b,eb⟩:∃b,a[k]=b:=⟨_,rfl⟩;have T:=Gt a k (by omega);rw [eb] at T;have G:Hid (cL c (s,S,recs,[]) (a.take (k+1))=gQ c x b):=Lib.hid (by rw [CO c _ a k a1,F.out,eb]);have H:=Lib.hid (vQ x.1.wait b);have g:=Lib.hid (K.out.take (W:=wr.drew) ((Below.refl _ _).drew) b);have m:=Lib.hid (K.out.take (W:=(wr.alloc (.cells #[.string ⟨#[]⟩,.bool false] 138)).drew) (((Below.refl _ _).alloc (Nat.le_refl _) _).drew) b);have O:Hid ((wr.alloc (.cells #[.string ⟨#[]⟩,.bool false] 138)).drew.heap[wr.heap.size]? =some (.cells #[.string ⟨#[]⟩,.bool false] 138 (0,0))):=Lib.hid (heap_alloc_new wr _);obtain ⟨y,ey⟩:∃y,j4 x.1.wait b=y:=⟨_,rfl⟩;have N:=Lib.hid ey;rw [ey] at H g m;clear ey eb;obtain ⟨U,o⟩:=y
    cases o with
    | none=>
     have v:Hid (gQ c x b=({x.1 with wait:=U},x.2)):=Lib.hid (by
      unfold gQ;rw [J.out,N.out]
      rfl)
     simp only [th] at H g m;go_wp2_with fail
     go_region_law (first
      | (go_simp;go_at_call 66;refine g.out.mono ?_;rintro e d ⟨rfl,f,hs,D⟩;have u:=Lib.hid f;clear f D;dsimp only)
      | (go_simp;go_at_call 66;refine m.out.mono ?_;rintro e d ⟨rfl,f,hs,D⟩;have u:=Lib.hid f;have z:=D _ _ _ O.out;have q0:d.cell? ⟨wr.heap.size,0,none⟩=some (.string ⟨#[]⟩):=(by rw [Lib.cell_of_heap z];rfl);have q1:d.cell? ⟨wr.heap.size,1,none⟩=some (.bool false):=(by rw [Lib.cell_of_heap z];rfl);have qf:=fun j=>Lib.frozen_of_heap z j;have P:=Lib.hid z;clear f z D;dsimp only))
     ·have r:=Lib.hid (u.out _ (aH.below ((Below.refl _ d).alloc (Nat.le_refl _) (.cells #[.string ⟨#[]⟩,.bool false] 138))));go_wp2_with fail
      exact ⟨⟨k+1,by omega,by go_num,Lib.hid (by rw [G.out,v.out];exact r.out)⟩,by simp [intOf];omega⟩
     all_goals
      have r:=Lib.hid (u.out _ (Ec (x:= .string ⟨#[]⟩) (y:= .bool false) (bx:=wr.heap.size) ⟨Nat.le_refl _,by simp⟩));go_wp2_with fail
      exact ⟨⟨k+1,by omega,by go_num,Lib.hid (by rw [G.out,v.out];exact r.out)⟩,by simp [intOf];omega⟩
    | some l=>
     obtain ⟨p,n⟩:=l
     have v:Hid (gQ c x b=((aO c {x.1 with wait:=U} x.2.1 x.2.2.1 p n).1,(aO c {x.1 with wait:=U} x.2.1 x.2.2.1 p n).2.1,(aO c {x.1 with wait:=U} x.2.1 x.2.2.1 p n).2.2.1,x.2.2.2++(aO c {x.1 with wait:=U} x.2.1 x.2.2.1 p n).2.2.2.flatten)):=Lib.hid (by
      unfold gQ;rw [J.out,N.out]
      rfl)
     have L:Hid (x.2.2.2.length≤1099511627776):=Lib.hid (by have:=Z.out k;rw [F.out] at this;exact this);have M:=Lib.hid (H.out.2 (p,n) rfl);simp only [th] at H g m;go_wp2_with fail
     go_region_law (first
      | (go_simp;go_at_call 66;refine g.out.mono ?_;rintro e d ⟨rfl,f,hs,D⟩;have u:=Lib.hid f;clear f D;dsimp only)
      | (go_simp;go_at_call 66;refine m.out.mono ?_;rintro e d ⟨rfl,f,hs,D⟩;have u:=Lib.hid f;have z:=D _ _ _ O.out;have q0:d.cell? ⟨wr.heap.size,0,none⟩=some (.string ⟨#[]⟩):=(by rw [Lib.cell_of_heap z];rfl);have q1:d.cell? ⟨wr.heap.size,1,none⟩=some (.bool false):=(by rw [Lib.cell_of_heap z];rfl);have qf:=fun j=>Lib.frozen_of_heap z j;have P:=Lib.hid z;clear f z D;dsimp only))
     ·have Q:Below d.heap.size d (d.alloc (.cells #[.string (bs p),.bool n] 138)):=(Below.refl _ d).alloc (Nat.le_refl _) _;have V:=heap_alloc_new d (.cells #[.string (bs p),.bool n] 138);have r:=u.out _ (aH.below Q);obtain ⟨W9,C⟩:∃W:World,d.alloc (.cells #[.string (bs p),.bool n] 138)=W:=⟨_,rfl⟩;rw [C] at r V ⊢;have c0:W9.cell? ⟨d.heap.size,0,none⟩=some (.string (bs p)):=by rw [Lib.cell_of_heap V];rfl
      have c1:W9.cell? ⟨d.heap.size,1,none⟩=some (.bool n):=by rw [Lib.cell_of_heap V];rfl
      have X:=Lib.hid (r.line (p,n) M.out L.out);clear Q V r C g m;go_wp2_with fail
      refine X.out.mono ?_;rintro e w2 ⟨rfl,B⟩;have I:=Lib.hid B;clear B;go_wp2_with fail
      exact ⟨⟨k+1,by omega,by go_num,Lib.hid (by rw [G.out,v.out];exact I.out)⟩,by simp [intOf];omega⟩
     all_goals
      have S9:aL wr.heap.size d ((d.setCell ⟨wr.heap.size,0,none⟩ (.string (bs p))).setCell ⟨wr.heap.size,1,none⟩ (.bool n)):=((aL.refl _ _).setCell _).setCell _;obtain ⟨c0,c1,_⟩:=qC (x:= .string (bs p)) (y:= .bool n) P.out;have r:=u.out _ (Ec (x:= .string (bs p)) (y:= .bool n) (bx:=wr.heap.size) ⟨Nat.le_refl _,by simp⟩);obtain ⟨W9,C⟩:∃W:World,(d.setCell ⟨wr.heap.size,0,none⟩ (.string (bs p))).setCell ⟨wr.heap.size,1,none⟩ (.bool n)=W:=⟨_,rfl⟩;rw [C] at r c0 c1 ⊢;have X:=Lib.hid (r.line (p,n) M.out L.out);clear S9 r C g m q0 q1 qf;go_wp2_with fail
      refine X.out.mono ?_;rintro e w2 ⟨rfl,B⟩;have I:=Lib.hid B;clear B;go_wp2_with fail
      exact ⟨⟨k+1,by omega,by go_num,Lib.hid (by rw [G.out,v.out];exact I.out)⟩,by simp [intOf];omega⟩
end
end Go.Proofs.YtofpegbpgkkgkaaGreatDoor
