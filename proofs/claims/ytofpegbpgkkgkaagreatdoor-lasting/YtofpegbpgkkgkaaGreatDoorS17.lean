import Derived.Test.YtofpegbpgkkgkaaGreatDoorS11
import Derived.Test.YtofpegbpgkkgkaaGreatDoorS12
import Derived.Test.YtofpegbpgkkgkaaGreatDoorS16
import Derived.Conc.SmallLaws
namespace Go.Proofs.YtofpegbpgkkgkaaGreatDoor
set_option maxHeartbeats 8000000
set_option maxRecDepth 1000000
open Go.RowKit
theorem an.lt [Kn] {w:World} {pb mb:Nat} {q:Nat→Nat} {vr:Value} {S:aa} {recs:List UInt8} (h:fv w pb mb q vr S recs) {k:Nat} (j:an w pb mb q vr S k):k < w.heap.size:=by
 rcases j with (e | e | ⟨i,f,e | ⟨C,z,a,d⟩⟩) | e
 ·rw [e];exact h.inn.pblt
 ·rw [e];exact h.inn.mblt
 ·obtain ⟨_,v,x,b,_⟩:=h.inn.mail i f;rw [e];exact ah b
 ·obtain ⟨_,v,x,b,g⟩:=h.inn.mail i f;unfold dL at b;rw [b] at a;injection a with a;injection a with a _ _;rw [←a] at d;exact (g.lt k d).2
 ·exact h.row.lt e
theorem fv.chg [Kn] {B:Nat→Prop} {w l:World} {pb mb:Nat} {q:Nat→Nat} {vr:Value} {S:aa} {recs:List UInt8} (h:fv w pb mb q vr S recs) (j:aH B w l) (f:∀k,an w pb mb q vr S k→¬B k):fv l pb mb q vr S recs∧∀k,an l pb mb q vr S k→an w pb mb q vr S k:=by
 have n:∀i∈S.live,l.heap[q i]? =w.heap[q i]? :=fun i d=>by
  obtain ⟨_,v,x,b,_⟩:=h.inn.mail i d;exact j.block _ (ah b) (f _ (.inl (.inr (.inr ⟨i,d,.inl rfl⟩))))
 refine ⟨⟨⟨j.some_ h.inn.bag (f _ (.inl (.inl rfl))),j.some_ h.inn.map (f _ (.inl (.inr (.inl rfl)))),h.inn.pbb,h.inn.mbb,h.inn.one,fun i d=>?_⟩,h.row.chg j (fun g m=>f g (.inr m)),fun i d=>(h.due i d).imp fun C x=>⟨(n i d).trans x.1,x.2⟩,h.kn⟩,fun k p=>p.imp (fun e=>fM.keep n e) id⟩;obtain ⟨a,v,x,b,o⟩:=h.inn.mail i d;refine ⟨a,v,x,j.some_ b (f _ (.inl (.inr (.inr ⟨i,d,.inl rfl⟩)))),bC o j (fun g m=>f g (.inl (.inr (.inr ⟨i,d,.inr ⟨_,_,b,m⟩⟩))))⟩
def gp [Kn] (A:Nat→Prop) (pp pb mb sb ch:Nat) (vw:Value) (q:Nat→Nat) (vr:Value) (S:aa) (w:World) (s':bG) (S':aa) (recs':List UInt8) (ls':List (List UInt8)) (w':World):Prop:=
 ∃A' q' vr',cI w' A' pp pb sb ch vw ls' s'∧fv w' pb mb q' vr' S' recs'∧(∀k,A k→A' k)∧(∀k,A' k→A k∨w.heap.size≤k)∧(∀k,an w' pb mb q' vr' S' k→an w pb mb q vr S k∨w.heap.size≤k)∧(∀k,A' k→¬an w' pb mb q' vr' S' k)∧aH (fun k=>A k∨an w pb mb q vr S k) w w'
section
variable {A:Nat→Prop} {pp pb mb sb ch:Nat} {vw:Value} {q:Nat→Nat} {vr:Value} {S:aa} {recs:List UInt8} {w:World} {s:bG} {E:Nat→Prop} {c:bX}
theorem gp.step [Kn] {w':World} {m:bG} {d:List (List UInt8)} {e:Ending} (j:fv w pb mb q vr S recs) (l:∀k,A k→¬an w pb mb q vr S k) (h:cP A pp pb sb ch vw w m d e w'):gp A pp pb mb sb ch vw q vr S w m S recs d w':=by
 obtain ⟨_,n,p,r,g,i⟩:=h;obtain ⟨o,f⟩:=j.chg i (fun k b a=>l k a b);exact ⟨n,q,vr,p,o,r,g,fun k b=> .inl (f k b),fun k t b=>(g k t).elim (fun e=>l k e (f k b)) (fun e=>by have:=an.lt j (f k b);omega),i.mono (fun _ _ e=> .inl e)⟩
theorem cI.drop_d {f:List (List UInt8)} (h:cI w A pp pb sb ch vw f s) (u:FrameMode):CallsD Tryz.prog 194 #[.pointer (some ⟨sb,0,none⟩)] u w fun e u' b=>u'=u∧e= .returned (.tuple #[])∧cI b A pp pb sb ch vw f {s with tx:=none}∧aH A w b:=by
 obtain ⟨i,a,j⟩:=h.ex;refine (oa sb i u w (a.cell 8) (a.frozen 8)).mono ?_;rintro e u' b ⟨rfl,rfl,rfl⟩;have d:aL sb w (w.setCell ⟨sb,8,none⟩ (.pointer none)):=(aL.refl _ _).setCell _;exact ⟨rfl,rfl,⟨⟨.pointer none,a.set 8 (by decide) (.pointer none),rfl⟩,h.asb,h.ach,fun k g=>Nat.lt_of_lt_of_le (h.lt k g) (aH.same d).size⟩,(aH.same d).mono (fun k _ e=>by rw [e];exact h.asb)⟩
theorem I9 (h:cI w A pp pb sb ch vw [] s) {t:mK} (B:s.tx=some t) {b:dW} (y:t.body=some b) (j:b.bad=true):
  Calls Tryz.prog 139 #[.pointer (some ⟨sb,0,none⟩)] w (cP A pp pb sb ch vw w {s with tx:=none} [zm]):=by
 obtain ⟨K,d,k⟩:=h.ex;rw [B] at k;obtain ⟨u,J,I,rfl,G,r,F,p⟩:=k;rw [y] at p;obtain ⟨o,L,rfl,z,g,x⟩:=p;have D:w.cell? ⟨sb,8,none⟩=some (.pointer (some ⟨u,0,none⟩)):=d.cell 8;have H:w.cell? ⟨u,2,none⟩=some (.pointer (some ⟨o,0,none⟩)):=r.cell 2;have C:w.cell? ⟨o,2,none⟩=some (.bool true):=by rw [Lib.cell_of_heap g.blk,←j];rfl
 have v:=Lib.hid (h.tell (by simp) [53,48,48,32,119,104,97,116] (by decide));clear h d r g;go_enter_defers Tryz.func139,Tryz.ntmps139
 go_wp2_with fail
 refine v.out.mono ?_;rintro e M ⟨rfl,d,i⟩;have l:=Lib.hid d;have m:=Lib.hid i;clear d i;go_wp2_with fail
 refine leaves_cons (f:=194) (args:=#[.pointer (some ⟨sb,0,none⟩)]) (by simp) (by simp [go_sem]) ?_;refine (l.out.drop_d .returning).mono ?_;rintro e u' N ⟨rfl,rfl,k,n⟩;exact ⟨_,results_none rfl _ _ _,rfl,A,k,fun _ a=>a,fun _ a=> .inl a,m.out.trans n (fun _ _ e=>e)⟩
end
section
variable {A:Nat→Prop} {pp pb mb sb ch:Nat} {vw:Value} {q:Nat→Nat} {vr:Value} {S:aa} {recs:List UInt8} {w:World} {s:bG} {E:Nat→Prop} {c:bX}
theorem GH (h:cI w A pp pb sb ch vw [] s) (y:gg E w pp c) {t:mK} (N:s.tx=some t) {b:dW} (L:t.body=some b) (k:b.bad=false) (z:c.size < (b.text.length:Int)):
  Calls Tryz.prog 139 #[.pointer (some ⟨sb,0,none⟩)] w (cP A pp pb sb ch vw w {s with tx:=none} [uw]):=by
 obtain ⟨vx,i,m⟩:=h.ex;obtain ⟨W,X,Y,Z,B,_⟩:=y.set;rw [N] at m;obtain ⟨C,vt,vb,rfl,U,x,T,v⟩:=m;rw [L] at v;obtain ⟨r,vy,rfl,M,d,K⟩:=v;obtain ⟨H,I,J⟩:=vC d.row;subst J;have Q:w.cell? ⟨sb,0,none⟩=some (.pointer (some ⟨pp,0,none⟩)):=i.cell 0;have R:w.cell? ⟨sb,8,none⟩=some (.pointer (some ⟨C,0,none⟩)):=i.cell 8;have V:w.cell? ⟨C,2,none⟩=some (.pointer (some ⟨r,0,none⟩)):=x.cell 2;have O:w.cell? ⟨r,0,none⟩=some (.slice H b.text.length I):=by rw [Lib.cell_of_heap d.blk];rfl
 have P:w.cell? ⟨r,2,none⟩=some (.bool false):=by rw [Lib.cell_of_heap d.blk,←k];rfl
 have y5:w.cell? ⟨pp,5,none⟩=some (.int .i64 c.size):=(B.cell 5 (by decide)).trans rfl;have F:=Lib.hid h;clear h i x d B y;go_enter_defers Tryz.func139,Tryz.ntmps139
 go_wp2_with fail
 go_quiet (fail)
 have g:=bA nq w w.heap.size;obtain ⟨D,l⟩:∃D,w.drewN nq=D:=⟨_,rfl⟩;rw [l] at g ⊢;have G:=Lib.hid ((F.out.below g).tell (by simp) [53,53,50,32,115,105,122,101] (by decide));have n:=Lib.hid g;clear g l;go_wp2_with fail
 refine G.out.mono ?_;rintro e w1 ⟨rfl,i,j⟩;have o:=Lib.hid i;have p:=Lib.hid j;clear i j;go_wp2_with fail
 refine leaves_cons (f:=194) (args:=#[.pointer (some ⟨sb,0,none⟩)]) (by simp) (by simp [go_sem]) ?_;refine (o.out.drop_d .returning).mono ?_;rintro e u' w2 ⟨rfl,rfl,m,u⟩;exact ⟨_,results_none rfl _ _ _,rfl,A,m,fun _ a=>a,fun _ a=> .inl a,((aH.below n.out:aH A _ _).trans p.out (fun _ _ e=>e)).trans u (fun _ _ e=>e)⟩
def G4 [Kn] (S:aa) (recs:List UInt8) (pb mb:Nat) (q:Nat→Nat) (vr:Value) (m:aX) (W:World) (id:Int) (ok:Bool) (w':World):Prop:=
 (ok=false∧Below W.heap.size W w')∨(ok=true∧id=(S.items.length:Int)+1∧jm pb mb q vr S recs m W w')
theorem jm.from [Kn] {m:aX} {W g:World} (h:fv w pb mb q vr S recs) (d:Below w.heap.size w W) (b:jm pb mb q vr S recs m W g):jm pb mb q vr S recs m w g:=by
 obtain ⟨n,f,l,i,j⟩:=b;have a:∀k,an W pb mb q vr S k→an w pb mb q vr S k:=fun k b=>b.imp (fun e=>cR h.inn d e) id;exact ⟨n,f,l,(aH.below d:aH _ _ _).trans i (fun k _ e=>a k e),fun k b=>(j k b).imp (a k) (fun e=>Nat.le_trans d.size e)⟩
theorem G4.chg [Kn] {m:aX} {a:World} {b:Int} {d:Bool} (h:G4 S recs pb mb q vr m w b d a):aH (an w pb mb q vr S) w a:=by
 rcases h with ⟨_,h⟩ | ⟨_,_,_,_,_,h,_⟩
 ·exact aH.below h
 ·exact h
def jt (c:bX) (recs:List UInt8) (m:aX):Bool:= !decide (c.room < ((recs.length+(8+(cA m).length):Nat):Int))
theorem GG [Kn] (h:cI w A pp pb sb ch vw [] s) (V:gg E w pp c) (B:fv w pb mb q vr S recs) {t:mK} (ht:s.tx=some t) {b:dW} (hb:t.body=some b) (a9:b.bad=false) (d8:¬c.size < (b.text.length:Int)) (hz:dQ (eJ S t.frm t.tos b.text)) (P:recs.length≤1073741824) (b4:bP (cA (eJ S t.frm t.tos b.text))=some (eJ S t.frm t.tos b.text)) (d:∀k,A k→¬an w pb mb q vr S k) (N:∀k,E k→¬an w pb mb q vr S k) (G:∀k,E k→¬A k):
  Calls Tryz.prog 139 #[.pointer (some ⟨sb,0,none⟩)] w fun e j=>e= .returned (.tuple #[])∧
   (if jt c recs (eJ S t.frm t.tos b.text) then gp A pp pb mb sb ch vw q vr S w {s with tx:=none} (S.plus (eJ S t.frm t.tos b.text)) (recs++bJ (cA (eJ S t.frm t.tos b.text))) [[50,53,48,32,107,101,112,116,32]++Lib.itoa ((S.items.length:Int)+1)++[13,10]] j else gp A pp pb mb sb ch vw q vr S w {s with tx:=none} S recs [CR] j):=by
 obtain ⟨vx,T,h2⟩:=h.ex;obtain ⟨vD,vN,vU,vW,hs,_⟩:=V.set;obtain ⟨m,hm⟩:=V.len;rw [ht] at h2;obtain ⟨r,vt,vb,rfl,ha,U,hO,hB⟩:=h2;rw [hb] at hB;obtain ⟨J,vy,rfl,d3,n,d1⟩:=hB;obtain ⟨ay,cy,ey⟩:=vC n.row;have a7:=dT.ofF n.row;subst ey;obtain ⟨u,ct,et⟩:=aE (aF U.row);subst et;have c0:w.cell? ⟨sb,0,none⟩=some (.pointer (some ⟨pp,0,none⟩)):=T.cell 0;have c1:w.cell? ⟨sb,1,none⟩=some (.pointer (some ⟨pb,0,none⟩)):=T.cell 1;have c8:w.cell? ⟨sb,8,none⟩=some (.pointer (some ⟨r,0,none⟩)):=T.cell 8;have t0:w.cell? ⟨r,0,none⟩=some (.string (bs t.frm)):=U.cell 0;have t1:w.cell? ⟨r,1,none⟩=some (.slice u t.tos.length ct):=U.cell 1;have t2:w.cell? ⟨r,2,none⟩=some (.pointer (some ⟨J,0,none⟩)):=U.cell 2;have b0:w.cell? ⟨J,0,none⟩=some (.slice ay b.text.length cy):=by rw [Lib.cell_of_heap n.blk];rfl
 have b2:w.cell? ⟨J,2,none⟩=some (.bool false):=by rw [Lib.cell_of_heap n.blk,←a9];rfl
 have y5:w.cell? ⟨pp,5,none⟩=some (.int .i64 c.size):=(hs.cell 5 (by decide)).trans rfl;have y8:w.cell? ⟨pp,8,none⟩=some (.int .i64 c.room):=(hs.cell 8 (by decide)).trans rfl;have d5:=(ly V.may).2.2.2;obtain ⟨Q,y⟩:∃Q,jt c recs (eJ S t.frm t.tos b.text)=Q:=⟨_,rfl⟩;have d9:S.items.length+1≤4294967295:=hz.1
 have a3:Hid (∀W:World,Below w.heap.size w W→Calls Tryz.prog 195 #[.pointer (some ⟨pb,0,none⟩),.string (bs t.frm),.slice u t.tos.length ct,.string (bs b.text),.int .i64 c.room] W fun e j=>∃id,e= .returned (.tuple #[.int .i64 id,.bool Q])∧G4 S recs pb mb q vr (eJ S t.frm t.tos b.text) w id Q j):=Lib.hid (fun W l=>by
  have F:fv W pb mb q vr S recs:=B.below l;have a8:=(aF U.row).below l
  by_cases i:c.room < ((recs.length+(8+(cA (eJ S t.frm t.tos b.text)).length):Nat):Int)
  ·have C:Q=false:=by rw [←y];unfold jt;rw [decide_eq_true i];rfl
   subst C;refine (Jd pb mb q vr _ S recs t.frm b.text t.tos c.room W F a8 hz P i).mono ?_;rintro e j ⟨rfl,L⟩;exact ⟨0,rfl,.inl ⟨rfl,l.trans (L.mono l.size)⟩⟩
  ·have C:Q=true:=by rw [←y];unfold jt;rw [decide_eq_false i];rfl
   subst C;refine (G5 pb mb q vr _ S recs t.frm b.text t.tos c.room m W F a8 hz P i d5 ((l.cell (aC hm)).trans hm) b4).mono ?_;rintro e j ⟨rfl,L⟩
   exact ⟨_,rfl,.inr ⟨rfl,rfl,jm.from B l L⟩⟩)
 have HS:Hid (∀W:World,aH (an w pb mb q vr S) w W→W.cell? ⟨sb,0,none⟩=some (.pointer (some ⟨pp,0,none⟩))∧W.cell? ⟨sb,1,none⟩=some (.pointer (some ⟨pb,0,none⟩))∧W.cell? ⟨r,0,none⟩=some (.string (bs t.frm))∧W.cell? ⟨r,1,none⟩=some (.slice u t.tos.length ct)∧W.cell? ⟨r,2,none⟩=some (.pointer (some ⟨J,0,none⟩))∧W.cell? ⟨J,0,none⟩=some (.slice ay b.text.length cy)∧W.cell? ⟨pp,8,none⟩=some (.int .i64 c.room)∧(convert 114 9 (.slice ay b.text.length cy)).run Tryz.prog W= .ok (.string (bs b.text)) W):=Lib.hid (fun W hK=>by
  have R:∀{x o:Nat} {v:Value},w.cell? ⟨x,o,none⟩=some v→¬an w pb mb q vr S x→W.cell? ⟨x,o,none⟩=some v:=fun e hn=>(World.cell?_of_block (hK.block _ (aC e) hn)).trans e
  exact ⟨R c0 (d _ h.asb),R c1 (d _ h.asb),R t0 (d _ ha),R t1 (d _ ha),R t2 (d _ ha),R b0 (d _ d3),R y8 (N _ V.epp),(a7.chg hK (fun g hg=>d g (d1 g hg))).string⟩)
 have HH:=Lib.hid h;have HE:=Lib.hid V;have b8:=Lib.hid B;have I:=Lib.hid d;have d0:=Lib.hid N;have d7:=Lib.hid G;rw [y];clear h T U n hs V B hz P a7 b4 d N G hm y;go_enter_defers Tryz.func139,Tryz.ntmps139
 go_wp2_with fail
 go_quiet (fail)
 have p:=bA nq w w.heap.size;obtain ⟨X,b5⟩:∃X,w.drewN nq=X:=⟨_,rfl⟩;rw [b5] at p ⊢;have a6:=a3.out _ (p.trans ((Below.refl w.heap.size X).drew));have a2:=Lib.hid a6;have C0:Hid (aH (an w pb mb q vr S) w X):=Lib.hid (aH.below p);have C1:Hid (aH (an w pb mb q vr S) w X.drew):=Lib.hid (aH.below (p.trans ((Below.refl w.heap.size X).drew)));obtain ⟨s0,s1,s2,s3,s4,s5,s6,s7⟩:=HS.out _ C0.out;clear p b5 c0 c1 c8 t0 t1 t2 b0 b2 y5 y8 a6 a3;go_wp2_with fail
 go_region_held3 (fun j=>j.cell? ⟨sb,0,none⟩=some (.pointer (some ⟨pp,0,none⟩))∧j.cell? ⟨sb,1,none⟩=some (.pointer (some ⟨pb,0,none⟩))∧j.cell? ⟨r,0,none⟩=some (.string (bs t.frm))∧j.cell? ⟨r,1,none⟩=some (.slice u t.tos.length ct)∧j.cell? ⟨r,2,none⟩=some (.pointer (some ⟨J,0,none⟩))∧j.cell? ⟨J,0,none⟩=some (.slice ay b.text.length cy)∧j.cell? ⟨pp,8,none⟩=some (.int .i64 c.room)∧(convert 114 9 (.slice ay b.text.length cy)).run Tryz.prog j= .ok (.string (bs b.text)) j)
  (first | exact HS.out _ C5.out | exact HS.out _ C1.out | exact HS.out _ C0.out)
  (first
   | (go_at_call 195;refine a2.out.mono ?_;rintro e w5 ⟨id,rfl,O⟩;have C5:=Lib.hid O.chg;have H:=Lib.hid O;clear O))
 have c3:=Lib.hid (HH.out.chg C5.out I.out);have c2:=Lib.hid (HE.out.chg C5.out d0.out);clear HS C0 C1 a2 s0 s1 s2 s3 s4 s5 s6 s7
 cases Q with
 | false=>
  have Z:Hid (Below w.heap.size w w5):=Lib.hid (by
   rcases H.out with ⟨_,h⟩ | ⟨h,_⟩
   ·exact h
   ·cases h)
  have HT:=Lib.hid ((HH.out.below Z.out).tell (by simp) [52,53,50,32,114,111,111,109] (by decide));go_wp2_with fail
  refine HT.out.mono ?_;rintro e w6 ⟨rfl,h6,a5⟩;have c4:=Lib.hid h6;have c6:=Lib.hid a5;clear h6 a5;go_wp2_with fail
  refine leaves_cons (f:=194) (args:=#[.pointer (some ⟨sb,0,none⟩)]) (by simp) (by simp [go_sem]) ?_;refine (c4.out.drop_d .returning).mono ?_;rintro e u' w7 ⟨rfl,rfl,h7,z⟩;refine ⟨_,results_none rfl _ _ _,rfl,?_⟩;exact gp.step (e:= .returned (.tuple #[])) b8.out I.out ⟨rfl,A,h7,fun _ a=>a,fun _ a=> .inl a,((aH.below Z.out:aH A _ _).trans c6.out (fun _ _ e=>e)).trans z (fun _ _ e=>e)⟩
 | true=>
  obtain ⟨b3,c9⟩:id=(S.items.length:Int)+1∧Hid (jm pb mb q vr S recs (eJ S t.frm t.tos b.text) w w5):=by
   rcases H.out with ⟨h,_⟩ | ⟨_,T,h2⟩
   ·cases h
   ·exact ⟨T,Lib.hid h2⟩
  subst b3
  have d4:(Lib.itoa ((S.items.length:Int)+1)).length≤10:=by
   unfold Lib.itoa;rw [if_neg (by omega)];exact kZ _ 9 (by omega)
  have a1:=Lib.hid (AP ((S.items.length:Int)+1) (by omega) (by omega) w5 c2.out.pow);have D:(⟨#[50,53,48,32,107,101,112,116,32]⟩:ByteArray)++bs (Lib.itoa ((S.items.length:Int)+1))=bs ([50,53,48,32,107,101,112,116,32]++Lib.itoa ((S.items.length:Int)+1)):=cE [50,53,48,32,107,101,112,116,32] _;have Y:=Lib.hid D;have d6:=aG (Lib.itoa ((S.items.length:Int)+1));obtain ⟨it,K⟩:∃it,Lib.itoa ((S.items.length:Int)+1)=it:=⟨_,rfl⟩;rw [K] at d4 a1 Y d6;have a0:=Lib.hid K;clear D K H;go_wp2_with fail
  refine a1.out.mono ?_;rintro e w6 ⟨rfl,M⟩;have b7:=Lib.hid M;have HT:=Lib.hid ((c3.out.below M).tell (by simp) ([50,53,48,32,107,101,112,116,32]++it) (by rw [List.length_append];simp;omega));clear M;go_wp2_with fail
  rw [Y.out];refine HT.out.mono ?_;rintro e w7 ⟨rfl,h7,z⟩;have c5:=Lib.hid h7;have c7:=Lib.hid z;clear h7 z;go_wp2_with fail
  refine leaves_cons (f:=194) (args:=#[.pointer (some ⟨sb,0,none⟩)]) (by simp) (by simp [go_sem]) ?_;refine (c5.out.drop_d .returning).mono ?_;rintro e u' w8 ⟨rfl,rfl,h8,d2⟩;refine ⟨_,results_none rfl _ _ _,rfl,?_⟩;obtain ⟨q',b6,R5,K5,O5⟩:=c9.out;have a4:aH A w5 w8:=((aH.below b7.out:aH A _ _).trans c7.out (fun _ _ e=>e)).trans d2 (fun _ _ e=>e);have b1:∀k,an w5 pb mb q' b6 (S.plus (eJ S t.frm t.tos b.text)) k→¬A k:=fun k C a=>(O5 k C).elim (fun e=>I.out k a e) (fun e=>by have:=HH.out.lt k a;omega);obtain ⟨R8,O8⟩:=R5.chg a4 b1;rw [a0.out];exact ⟨A,q',b6,h8,R8,fun _ a=>a,fun _ a=> .inl a,fun k C=>O5 k (O8 k C),fun k a C=>b1 k (O8 k C) a,(K5.mono (fun _ _ e=> .inr e)).trans a4 (fun _ _ e=> .inl e)⟩
end
structure tA (t:mK):Prop where
 frm:t.frm=[]∨dH t.frm=true
 tos:∀x∈t.tos,dH x=true
 one:t.tos.Nodup
 most:t.tos.length≤10
 body:∀b,t.body=some b→1≤t.tos.length∧b.text.length≤1102
structure oJ (S:aa) (recs:List UInt8):Prop where
 time:S.time≤1000000000
 len:S.items.length+1≤4294967295
 recs:recs.length≤1073741824
theorem mY {l:List UInt8} (h:dH l=true):l.length≤61:=by
 unfold dH at h;rw [Bool.and_eq_true,beq_iff_eq] at h;have:=xv l;rw [←h.2];unfold jb;simp only [List.length_append,List.length_cons];omega
theorem FL {a:List (List UInt8)} (h:1≤a.length) (i:a.length≤10) (l:∀x∈a,dH x=true) (m:a.Nodup):iH a=true:=by
 unfold iH;rw [decide_eq_true h,decide_eq_true i];simp only [Bool.true_and,List.all_eq_true,List.mem_range];intro k f;have e:∀j (d:j < a.length),a.getD j []=a[j]:=fun j d=>by rw [List.getD_eq_getElem?_getD,List.getElem?_eq_getElem d];rfl
 unfold oG yW;rw [Bool.and_eq_true];refine ⟨by rw [e k f];exact l _ (List.getElem_mem f),?_⟩
 simp only [List.all_eq_true,List.mem_range,Bool.not_eq_true',beq_eq_false_iff_ne];intro j d;rw [e j (by omega),e k f];intro g;have:=(List.nodup_iff_pairwise_ne.1 m);rw [List.pairwise_iff_getElem] at this;exact this j k (by omega) f d g
section
variable {S:aa} {recs:List UInt8} {t:mK} {b:dW}
theorem td (d:oJ S recs) (a:tA t) (f:t.body=some b):dQ (eJ S t.frm t.tos b.text):=by
 have g:t.frm.length≤255:=by
  rcases a.frm with e | e
  ·rw [e];simp
  ·have:=mY e;omega
 have i:=a.most;have j:=(a.body b f).2;have k:=d.time;exact ⟨d.len,by show S.time≤_;omega,g,by show t.tos.length≤_;omega,fun x h=>by have:=mY (a.tos x h);omega,by show b.text.length≤_;omega⟩
theorem Bn (j:oJ S recs) (a:tA t) (i:t.body=some b) (p:b.text.length≤1000):bP (cA (eJ S t.frm t.tos b.text))=some (eJ S t.frm t.tos b.text):=by
 have u:=td j a i;obtain ⟨y,z,B,C,v,D⟩:=u;have g:=a.body b i;have d:tu (eJ S t.frm t.tos b.text):=⟨by omega,by omega,by omega,by omega,fun x r=>by have:=v x r;omega,by show b.text.length < _;omega⟩
 have f:dr (eJ S t.frm t.tos b.text)=true:=by
  unfold dr;have k:decide ((eJ S t.frm t.tos b.text).time≤1000000000)=true:=decide_eq_true j.time
  have m:((eJ S t.frm t.tos b.text).frm.isEmpty || dH (eJ S t.frm t.tos b.text).frm)=true:=by
   show (t.frm.isEmpty || dH t.frm)=true
   rcases a.frm with e | e
   ·rw [e];rfl
   ·rw [e,Bool.or_true]
  have n:iH (eJ S t.frm t.tos b.text).tos=true:=FL g.1 a.most a.tos a.one;have o:decide ((eJ S t.frm t.tos b.text).body.length≤1000)=true:=decide_eq_true p;rw [k,m,n,o];rfl
 obtain ⟨l,h⟩:∃l,cA (eJ S t.frm t.tos b.text)=77::l:=⟨_,rfl⟩;rw [h];unfold bP;simp only [if_true];rw [xV d h];simp [f]
end
def kz (c:bX) (s:bG) (S:aa) (recs:List UInt8) (t:mK) (b:dW):bG×aa×List UInt8×List (List UInt8):=
 if b.bad then ({s with tx:=none},S,recs,[zm])
 else if c.size < (b.text.length:Int) then ({s with tx:=none},S,recs,[uw])
 else if jt c recs (eJ S t.frm t.tos b.text) then ({s with tx:=none},S.plus (eJ S t.frm t.tos b.text),recs++bJ (cA (eJ S t.frm t.tos b.text)),[[50,53,48,32,107,101,112,116,32]++Lib.itoa ((S.items.length:Int)+1)++[13,10]])
 else ({s with tx:=none},S,recs,[CR])
def dn (c:bX) (s:bG) (S:aa) (recs:List UInt8) (t:mK) (b:dW) (text:List UInt8) (bad:Bool):bG×aa×List UInt8×List (List UInt8):=
 if text=[46] then kz c s S recs t b else ({s with tx:=some {t with body:=some (b.add text bad c.size)}},S,recs,[])
section
variable {A:Nat→Prop} {pp pb mb sb ch:Nat} {vw:Value} {q:Nat→Nat} {vr:Value} {S:aa} {recs:List UInt8} {w:World} {s:bG} {E:Nat→Prop} {c:bX}
theorem I8 [Kn] (h:cI w A pp pb sb ch vw [] s) (r:gg E w pp c) (g:fv w pb mb q vr S recs) (u:oJ S recs) {t:mK} (v:s.tx=some t) (n:tA t) {b:dW} (j:t.body=some b) (i:∀k,A k→¬an w pb mb q vr S k) (p:∀k,E k→¬an w pb mb q vr S k) (l:∀k,E k→¬A k):
  Calls Tryz.prog 139 #[.pointer (some ⟨sb,0,none⟩)] w fun e o=>e= .returned (.tuple #[])∧gp A pp pb mb sb ch vw q vr S w (kz c s S recs t b).1 (kz c s S recs t b).2.1 (kz c s S recs t b).2.2.1 (kz c s S recs t b).2.2.2 o:=by
 unfold kz
 cases d:b.bad with
 | true=>
  refine (I9 h v j d).mono ?_;intro e o f;exact ⟨f.1,gp.step g i f⟩
 | false=>
  by_cases a:c.size < (b.text.length:Int)
  ·simp only [a,if_true];refine (GH h r v j d a).mono ?_;intro e o f;exact ⟨f.1,gp.step g i f⟩
  ·simp only [a,if_false];have x:b.text.length≤1000:=by have:=(ly r.may).2.1;omega
   refine (GG h r g v j d a (td u n j) u.recs (Bn u n j x) i p l).mono ?_;rintro e o ⟨rfl,f⟩;refine ⟨rfl,?_⟩
   cases m:jt c recs (eJ S t.frm t.tos b.text) with
   | true=>rw [m] at f;exact f
   | false=>rw [m] at f;exact f
theorem E4 [Kn] (h:cI w A pp pb sb ch vw [] s) (C:gg E w pp c) (j:fv w pb mb q vr S recs) (l:oJ S recs) {t:mK} (I:s.tx=some t) (x:tA t) {b:dW} (H:t.body=some b) (r:∀k,A k→¬an w pb mb q vr S k) (u:∀k,E k→¬an w pb mb q vr S k) (f:∀k,E k→¬A k) (i:Bool):
  Calls Tryz.prog 101 #[.pointer (some ⟨sb,0,none⟩),.agg #[.string (bs [46]),.bool i]] w fun e R=>e= .returned (.tuple #[])∧gp A pp pb mb sb ch vw q vr S w (kz c s S recs t b).1 (kz c s S recs t b).2.1 (kz c s S recs t b).2.2.1 (kz c s S recs t b).2.2.2 R:=by
 obtain ⟨n,p⟩:∃n:World,w.alloc (.cells #[.string (bs [46]),.bool i] 138)=n:=⟨_,rfl⟩;have m:Below w.heap.size w n:=by rw [←p];exact (Below.refl _ _).alloc (Nat.le_refl _) _
 have z:n.heap[w.heap.size]? =some (.cells #[.string (bs [46]),.bool i] 138 (0,0)):=by rw [←p];exact heap_alloc_new w _
 have T:n.cell? ⟨w.heap.size,0,none⟩=some (.string ⟨#[46]⟩):=by rw [Lib.cell_of_heap z];rfl
 have d:∀k,an n pb mb q vr S k→an w pb mb q vr S k:=fun k l=>l.imp (fun e=>cR j.inn m e) id;have G:=Lib.hid (I8 (h.below m) (C.below m) (j.below m) l I x H (fun k a e=>r k a (d k e)) (fun k a e=>u k a (d k e)) f);have g:=Lib.hid m;have o:=Lib.hid d;clear h C j m z r u f d;go_enter Tryz.func101,Tryz.ntmps101;go_wp2_with fail
 refine G.out.mono ?_;rintro e U ⟨rfl,B⟩;have F:=Lib.hid B;clear B;go_wp2_with fail
 refine bodyPost_ret (v:= .tuple #[]) (by simp [results,Tryz.results101,go_sem]) rfl ?_;obtain ⟨D,Q,y,J,K,L,M,N,O,P⟩:=F.out;exact ⟨rfl,D,Q,y,J,K,L,fun k l=>(M k l).imp id (fun e=>Nat.le_trans g.out.size e),fun k l=>(N k l).imp (o.out k) (fun e=>Nat.le_trans g.out.size e),O,(aH.below g.out:aH _ _ _).trans P (fun k _ e=>e.imp id (o.out k))⟩
theorem E1 (h:cI w A pp pb sb ch vw [] s) (he:gg E w pp c) {t:mK} (ht:s.tx=some t) (b1:tA t) {b:dW} (hb:t.body=some b) (d:List UInt8) (i:Bool) (a9:d≠[46]) (b0:d.length≤1048576):
  Calls Tryz.prog 101 #[.pointer (some ⟨sb,0,none⟩),.agg #[.string (bs d),.bool i]] w (cP A pp pb sb ch vw w {s with tx:=some {t with body:=some (b.add d i c.size)}} []):=by
 obtain ⟨vx,h1,h2⟩:=h.ex;obtain ⟨vD,vN,vU,vW,hs,_⟩:=he.set;rw [ht] at h2;obtain ⟨K,vt,vb,rfl,ha,hT,hO,hB⟩:=h2;rw [hb] at hB;obtain ⟨l,G,rfl,V,N,U⟩:=hB;have b3:=(b1.body b hb).2;obtain ⟨f,O⟩:∃f:World,w.alloc (.cells #[.string (bs d),.bool i] 138)=f:=⟨_,rfl⟩;have H:Below w.heap.size w f:=by rw [←O];exact (Below.refl _ _).alloc (Nat.le_refl _) _
 have X0:f.heap[w.heap.size]? =some (.cells #[.string (bs d),.bool i] 138 (0,0)):=by rw [←O];exact heap_alloc_new w _
 have e0:f.cell? ⟨w.heap.size,0,none⟩=some (.string (bs d)):=by rw [Lib.cell_of_heap X0];rfl
 have e1:f.cell? ⟨w.heap.size,1,none⟩=some (.bool i):=by rw [Lib.cell_of_heap X0];rfl
 have c0:f.cell? ⟨sb,0,none⟩=some (.pointer (some ⟨pp,0,none⟩)):=(h1.below H).cell 0;have c8:f.cell? ⟨sb,8,none⟩=some (.pointer (some ⟨K,0,none⟩)):=(h1.below H).cell 8;have t2:f.cell? ⟨K,2,none⟩=some (.pointer (some ⟨l,0,none⟩)):=by rw [Lib.cell_of_heap (ae H hT.blk)];rfl
 have y5:f.cell? ⟨pp,5,none⟩=some (.int .i64 c.size):=(H.cell (by exact he.lt _ he.epp)).trans ((hs.cell 5 (by decide)).trans rfl);have HH:=Lib.hid h;have a8:((bs d).toList == [46])=false:=by rw [beq_eq_false_iff_ne,ByteArray.toList_eq,aI];exact a9
 have Q:Hid (∀W:World,Below f.heap.size f W→Calls Tryz.prog 140 #[.pointer (some ⟨l,0,none⟩),.agg #[.string (bs d),.bool i],.int .i64 c.size] W fun e L=>e= .returned (.tuple #[])∧∃B,gl L l B (b.add d i c.size)∧aH (fun k=>k=l∨G.ownBlock=some k) W L∧∀k,B.ownBlock=some k→G.ownBlock=some k∨W.heap.size≤k):=Lib.hid (fun W a7=>Ah l G b d i c.size W (N.chg (A:=fun _=>False) (aH.below (H.trans (a7.mono H.size))) (fun e=>e) (fun _ _ e=>e)) (by omega) b0);have m:=Lib.hid H;have H1:=Lib.hid h1;have HT:=Lib.hid hT;have n:=Lib.hid N;have R:=Lib.hid U;have a4:=Lib.hid X0;have a3:Hid (∃D:Array Value,f.heap[pp]? =some (.cells D 88 (0,0))∧True):=Lib.hid (by obtain ⟨D,hD,_⟩:=hs.blk;exact ⟨D,ae H hD,trivial⟩);clear h h1 hT N hs he H X0 U;go_enter Tryz.func101,Tryz.ntmps101;go_wp2_with fail
 have B1:Below f.heap.size f f.drew:=(Below.refl _ _).drew;have a1:=Lib.hid (Q.out _ B1);have b2:=Lib.hid B1
 have M:Hid (∀W:World,aH (fun k=>k=l∨G.ownBlock=some k) f W→W.cell? ⟨w.heap.size,0,none⟩=some (.string (bs d))∧W.cell? ⟨w.heap.size,1,none⟩=some (.bool i)∧W.cell? ⟨sb,0,none⟩=some (.pointer (some ⟨pp,0,none⟩))∧W.cell? ⟨sb,8,none⟩=some (.pointer (some ⟨K,0,none⟩))∧W.cell? ⟨K,2,none⟩=some (.pointer (some ⟨l,0,none⟩))∧W.cell? ⟨pp,5,none⟩=some (.int .i64 c.size)):=Lib.hid (fun W hK=>by
  have P:∀{x o:Nat} {v:Value},f.cell? ⟨x,o,none⟩=some v→(∀C z,f.heap[x]? ≠some (.cells C 253 z))→(∀C z,f.heap[x]? ≠some (.cells C 5 z))→W.cell? ⟨x,o,none⟩=some v:=fun e n1 n2=>(World.cell?_of_block (hK.block _ (aC e) (fun j=>by
   rcases j with j | j
   ·subst j;exact n1 _ _ (ae m.out n.out.blk)
   ·obtain ⟨I,z,F⟩:=gB n.out.row j
    exact n2 _ _ (ae m.out F)))).trans e
  have p:∀{x:Nat} {C:Array Value} {t t':TypeId} {z:Nat×Nat},f.heap[x]? =some (.cells C t z)→t≠t'→∀C' z',f.heap[x]? ≠some (.cells C' t' z'):=fun e hn C' z' j=>by
   rw [e] at j;injection j with j;injection j with _ j _;exact hn j
  obtain ⟨D,hD,_⟩:=a3.out;have hx:=a4.out;have J:=ae m.out H1.out.blk;have a0:=ae m.out HT.out.blk
  exact ⟨P e0 (p hx (by decide)) (p hx (by decide)),P e1 (p hx (by decide)) (p hx (by decide)),P c0 (p J (by decide)) (p J (by decide)),P c8 (p J (by decide)) (p J (by decide)),P t2 (p a0 (by decide)) (p a0 (by decide)),P y5 (p hD (by decide)) (p hD (by decide))⟩)
 have C0:Hid (aH (fun k=>k=l∨G.ownBlock=some k) f f):=Lib.hid (aH.refl _ _);have C1:Hid (aH (fun k=>k=l∨G.ownBlock=some k) f f.drew):=Lib.hid (aH.below B1);clear B1 a8 O
 go_region_held3 (fun L=>L.cell? ⟨w.heap.size,0,none⟩=some (.string (bs d))∧L.cell? ⟨w.heap.size,1,none⟩=some (.bool i)∧L.cell? ⟨sb,0,none⟩=some (.pointer (some ⟨pp,0,none⟩))∧L.cell? ⟨sb,8,none⟩=some (.pointer (some ⟨K,0,none⟩))∧L.cell? ⟨K,2,none⟩=some (.pointer (some ⟨l,0,none⟩))∧L.cell? ⟨pp,5,none⟩=some (.int .i64 c.size))
  (first | exact M.out _ C5.out | exact M.out _ C1.out | exact M.out _ C0.out)
  (first
   | (go_at_call 140;refine a1.out.mono ?_;rintro e w5 ⟨rfl,B,p1,p2,p3⟩;have C5:Hid (aH (fun k=>k=l∨G.ownBlock=some k) f w5):=Lib.hid (C1.out.trans p2 (fun _ _ e=>e));have T:=Lib.hid p1;have a2:=Lib.hid p3;clear p1 p2 p3))
 go_wp2_with fail
 refine bodyPost_end (results_none rfl _ _ _) rfl ?_;have C6:aH (fun k=>k=l∨G.ownBlock=some k) w w5:=(aH.below m.out:aH _ _ _).trans C5.out (fun _ _ e=>e);have Z:∀k,(k=l∨G.ownBlock=some k)→A k:=fun k e=>e.elim (fun e=>by rw [e];exact V) (R.out k)
 have y:∀{k:Nat} {C:Array Value} {t:TypeId} {z:Nat×Nat},w.heap[k]? =some (.cells C t z)→t≠253→t≠5→¬(k=l∨G.ownBlock=some k):=fun e n1 n2 j=>by
  rcases j with j | j
  ·rw [j,n.out.blk] at e;injection e with e;injection e with _ e _;exact n1 e.symm
  ·obtain ⟨I,z,F⟩:=gB n.out.row j;rw [F] at e;injection e with e;injection e with _ e _;exact n2 e.symm
 obtain ⟨sq,r,X⟩:=H1.out.chan
 have a5:bT w5 sb ch (iq pp pb ch vw (.pointer (some ⟨K,0,none⟩)) s) []:=H1.out.chg C6 (y H1.out.blk (by decide) (by decide)) (fun e=>by
  rcases e with e | e
  ·have:=n.out.blk;rw [←e,X] at this;cases this
  ·obtain ⟨I,z,F⟩:=gB n.out.row e
   rw [X] at F;cases F)
 have a6:si w5 K vt (.pointer (some ⟨l,0,none⟩)) t.frm t.tos:=HT.out.chg C6 (y HT.out.blk (by decide) (by decide)) (fun g Y=>by
  obtain ⟨I,F⟩:=dm HT.out.row Y
  exact y F (by decide) (by decide))
 refine ⟨rfl,fun k=>A k∨B.ownBlock=some k,⟨⟨_,a5,K,vt,_,rfl,.inl ha,a6,fun g Y=> .inl (hO g Y),l,B,rfl,.inl V,T.out,fun g Y=> .inr Y⟩,.inl HH.out.asb,.inl HH.out.ach,fun k u=>?_⟩,fun _ a=> .inl a,fun k u=>?_,C6.mono (fun k _ e=>Z k e)⟩
 ·rcases u with u | u
  ·exact Nat.lt_of_lt_of_le (HH.out.lt k u) C6.size
  ·obtain ⟨I,z,F⟩:=gB T.out.row u;exact ah F
 ·rcases u with u | u
  ·exact .inl u
  ·exact (a2.out k u).imp (R.out k) (fun e=>Nat.le_trans m.out.size e)
end
def lF (w:World) (v:Value) (l:List UInt8):Prop:=w.ownsRow 0 5 1 v l.length (Lib.byteCells l)
theorem aL.drew' {b:Nat} {w a:World} (h:aL b w a):aL b w a.drew:=⟨h.1,h.2,h.3.trans ⟨rfl,rfl,rfl⟩⟩
theorem lF.parts {w:World} {v:Value} {l:List UInt8} (h:lF w v l) (k:l≠[]):∃g a b,v= .slice (some ⟨g,0,none⟩) l.length a∧w.heap[g]? =some (.cells b 5 (0,0))∧l.length≤a∧a≤maxLen∧b.size=a∧b.toList.take l.length=Lib.byteCells l:=by
 rcases h.2 with ⟨_,d⟩ | ⟨g,a,b,e,_,j,f,i,m,c⟩
 ·exact absurd (List.length_eq_zero_iff.1 d) k
 ·exact ⟨g,a,b,e,j,f,i,by omega,by rw [Nat.mul_one] at c;exact c⟩
theorem lF.mk {w:World} {l:List UInt8} {g cap:Nat} {a:Array Value} (e:w.heap[g]? =some (.cells a 5 (0,0))) (b:l.length≤cap) (c:cap≤maxLen) (f:a.size=cap) (d:a.toList.take l.length=Lib.byteCells l):lF w (.slice (some ⟨g,0,none⟩) l.length cap) l:=
 ⟨by rw [Nat.mul_one];exact gR l,.inr ⟨g,cap,a,rfl,Nat.zero_le _,e,b,c,by omega,by rw [Nat.mul_one];exact d⟩⟩
theorem yR {a:Array Value} {l:List UInt8} (h:a.toList.take l.length=Lib.byteCells l) (j:Nat) (b:j < l.length):a[j]? =some (.int .u8 ((l.getD j 0).toNat:Int)):=by
 rw [←Array.getElem?_toList,←List.getElem?_take_of_lt b,h,Lib.byteCells,List.getElem?_map,List.getElem?_eq_getElem b,List.getD_eq_getElem?_getD,List.getElem?_eq_getElem b];rfl
def lk (l:List UInt8):List UInt8:=if 102 < l.length then l.take 101++[l.getD 102 0] else l
theorem DI (l:List UInt8):(lk l).length≤102:=by
 unfold lk
 split
 ·rename_i h
  simp only [List.length_append,List.length_take,List.length_cons,List.length_nil];omega
 ·omega
structure ll (w:World) (sb:Nat) (C:Array Value) (v:Value) (l:List UInt8):Prop where
 blk:w.heap[sb]? =some (.cells C 130 (0,0))
 size:C.size=9
 at2:C[2]? =some v
 row:lF w v l
theorem ll.far {w:World} {sb:Nat} {C:Array Value} {v:Value} {l:List UInt8} (h:ll w sb C v l):v.ownBlock≠some sb:=fun e=>by
 obtain ⟨b,a⟩:=dm h.row e;rw [h.blk] at a;simp at a
theorem ll.below {w b:World} {sb:Nat} {C:Array Value} {v:Value} {l:List UInt8} (h:ll w sb C v l) (a:Below w.heap.size w b):ll b sb C v l:=⟨ae a h.blk,h.size,h.at2,aA h.row fun _ _ e _=>ae a e⟩
def oI (sb:Nat) (C:Array Value) (v:Value) (l':List UInt8) (w w':World):Prop:=
 ∃v',ll w' sb (C.setIfInBounds 2 v') v' l'∧aH (fun k=>k=sb∨v.ownBlock=some k) w w'∧∀k,v'.ownBlock=some k→v.ownBlock=some k∨w.heap.size≤k
theorem BJ (sb:Nat) (C:Array Value) (v:Value) (l:List UInt8) (w:World) (h:ll w sb C v l) (hl:l.length≤103) (t:1≤l.length):
  Calls Tryz.prog 98 #[.pointer (some ⟨sb,2,none⟩)] w fun e w'=>e= .returned (.tuple #[])∧oI sb C v (lk l) w w':=by
 obtain ⟨g,a,V,rfl,q,p1,Y,Z,y⟩:=h.row.parts (fun e=>by rw [e] at t;simp at t);have S:w.cell? ⟨sb,2,none⟩=some (.slice (some ⟨g,0,none⟩) l.length a):=by rw [Lib.cell_of_heap h.blk];exact h.at2
 have f2:=Lib.frozen_of_heap h.blk 2
 have r:C.setIfInBounds 2 (.slice (some ⟨g,0,none⟩) l.length a)=C:=by
  apply Array.ext_getElem?;intro i;rw [Array.getElem?_setIfInBounds]
  split
  ·rename_i H
   subst H;rw [h.at2,if_pos (by have:=h.size;omega)]
  ·rfl
 by_cases c:102 < l.length
 ·have I:l.length=103:=by omega
  obtain ⟨d,p⟩:∃d,l.getD 102 0=d:=⟨_,rfl⟩;obtain ⟨J,x⟩:∃J,l.getD 101 0=J:=⟨_,rfl⟩;have u:sb≠g:=fun e=>h.far (by rw [e];rfl);have M:w.drew.cell? ⟨g,101,none⟩=some (.int .u8 (J.toNat:Int)):=by show w.cell? _=_;rw [Lib.cell_of_heap q,←x];exact yR y 101 (by omega)
  have N:w.drew.cell? ⟨g,102,none⟩=some (.int .u8 (d.toNat:Int)):=by show w.cell? _=_;rw [Lib.cell_of_heap q,←p];exact yR y 102 (by omega)
  have fg:w.drew.frozen? ⟨g,101,none⟩=false:=Lib.frozen_of_heap q 101;have U:w.drew.cell? ⟨sb,2,none⟩=some (.slice (some ⟨g,0,none⟩) l.length a):=S;have H:(102:Int) < (l.length:Int):=by omega
  have X:(101:Int) < (l.length:Int):=by omega
  have z:aL g w ((w.setCell ⟨g,101,none⟩ (.int .u8 (d.toNat:Int))).drew):=((aL.refl _ _).setCell _).drew';have b:=heap_setCell_same w g 101 _ _ (.int .u8 (d.toNat:Int)) q;obtain ⟨f,n⟩:∃f:World,(w.setCell ⟨g,101,none⟩ (.int .u8 (d.toNat:Int))).drew=f:=⟨_,rfl⟩;have F:=Lib.hid n;replace b:(w.setCell ⟨g,101,none⟩ (.int .u8 (d.toNat:Int))).drew.heap[g]? =_:=b;rw [n] at z b;have m:=(z.2 sb u).trans h.blk;have E:Hid (lk l=l.take 101++[d]):=Lib.hid (by unfold lk;rw [if_pos c,p]);have G:aL sb f (f.setCell ⟨sb,2,none⟩ (.slice (some ⟨g,0,none⟩) 102 a)):=(aL.refl _ _).setCell _;have o:(l.take 101++[d]).length=102:=by simp only [List.length_append,List.length_take,List.length_cons,List.length_nil];omega
  have L:lF (f.setCell ⟨sb,2,none⟩ (.slice (some ⟨g,0,none⟩) 102 a)) (.slice (some ⟨g,0,none⟩) 102 a) (l.take 101++[d]):=by
   have:=lF.mk (l:=l.take 101++[d]) (w:=f.setCell ⟨sb,2,none⟩ (.slice (some ⟨g,0,none⟩) 102 a)) (cap:=a) ((G.2 g (Ne.symm u)).trans b) (by omega) Y (by simp [Z]) (by
    rw [o];apply List.ext_getElem?;intro j;rw [List.getElem?_take]
    by_cases P:j < 102
    ·rw [if_pos P,Array.getElem?_toList]
     by_cases s:j=101
     ·subst s;rw [Array.getElem?_setIfInBounds_self_of_lt (by omega),Lib.byteCells,List.getElem?_map,List.getElem?_append_right (by rw [List.length_take];omega),List.length_take,show 101 - min 101 l.length=0 by omega]
      rfl
     ·rw [Array.getElem?_setIfInBounds_ne (fun e=>s e.symm),yR y j (by omega)];rw [Lib.byteCells,List.getElem?_map,List.getElem?_append_left (by rw [List.length_take];omega),List.getElem?_take_of_lt (by omega),List.getElem?_eq_getElem (by omega),List.getD_eq_getElem?_getD,List.getElem?_eq_getElem (by omega)];rfl
    ·rw [if_neg P,List.getElem?_eq_none (by rw [gR];omega)])
   rw [o] at this;exact this
  have D:=Lib.hid L;have R:Hid (aH (fun k=>k=sb∨(Value.slice (some ⟨g,0,none⟩) l.length a).ownBlock=some k) w (f.setCell ⟨sb,2,none⟩ (.slice (some ⟨g,0,none⟩) 102 a))):=Lib.hid (((aH.same z).mono (fun k _ e=> .inr (by rw [e];rfl))).trans (aH.same G) (fun _ _ e=> .inl e));have A:=Lib.hid (heap_setCell_same f sb 2 _ _ (.slice (some ⟨g,0,none⟩) 102 a) m);have T:f.cell? ⟨sb,2,none⟩=some (.slice (some ⟨g,0,none⟩) l.length a):=by rw [Lib.cell_of_heap m];exact h.at2
  have W:=Lib.frozen_of_heap m 2;have K:=Lib.hid h.size;have O:(102:Int)≤(a:Int):=by omega
  clear h q b z G L m y n x p I o;go_enter Tryz.func98,Tryz.ntmps98;go_wp2_with fail
  go_region
  rw [F.out];go_wp2_with fail
  refine bodyPost_end (results_none rfl _ _ _) rfl ?_;exact ⟨rfl,.slice (some ⟨g,0,none⟩) 102 a,by rw [E.out];exact ⟨A.out,by rw [Array.size_setIfInBounds];exact K.out,by rw [Array.getElem?_setIfInBounds_self_of_lt (by have:=K.out;omega)],D.out⟩,R.out,fun k e=> .inl e⟩
 ·have E:Hid (lk l=l):=Lib.hid (by unfold lk;rw [if_neg c]);have H:¬(102:Int) < (l.length:Int):=by omega
  have Q:=Lib.hid h;have B:=Lib.hid r;clear h q y r;go_enter Tryz.func98,Tryz.ntmps98;go_wp2_with fail
  refine bodyPost_end (results_none rfl _ _ _) rfl ?_;exact ⟨rfl,_,by rw [E.out,B.out];exact Q.out,aH.refl _ _,fun k e=> .inl e⟩
def pK (l:List UInt8):Bool:=Lib.hasSuffix l [13,10]
def j4 (wait:List UInt8) (b:UInt8):List UInt8×Option (List UInt8×Bool):=
 if pK (wait++[b]) then ([],some (jw ((wait++[b]).take ((wait++[b]).length - 2)))) else (lk (wait++[b]),none)
def th (o:Option (List UInt8×Bool)):Value:=
 match o with
 | none=> .tuple #[.agg #[.string ⟨#[]⟩,.bool false],.bool false]
 | some x=> .tuple #[.agg #[.string (bs x.1),.bool x.2],.bool true]
def qQ (l:List UInt8):List Int:=l.map fun b=>(b.toNat:Int)
theorem yI (l:List UInt8):Lib.bytesOf (qQ l)=l:=by
 unfold Lib.bytesOf qQ;rw [List.map_map];conv=>rhs;rw [←List.map_id l]
 congr 1
 funext b
 simp
theorem AO (l:List UInt8) (i:Nat) (h:i < l.length):(qQ l).getD i 0=((l.getD i 0).toNat:Int):=by
 rw [List.getD_eq_getElem?_getD,List.getD_eq_getElem?_getD,qQ,List.getElem?_map,List.getElem?_eq_getElem h];rfl
theorem lF.by {w:World} {l:List UInt8} {g n cap:Nat} (h:lF w (.slice (some ⟨g,0,none⟩) n cap) l):qF w g l:=fun j a=>by
 obtain ⟨f,b,cur,e,d,_,_,_,c⟩:=h.parts (fun e=>by rw [e] at a;simp at a);injection e with e _ _;injection e with e;injection e with e _;subst e;rw [Lib.cell_of_heap d];exact yR c j a
theorem wD (l:List UInt8) (g a c:Nat) (w:World) (h:qF w g l) (b:l.length≤a) (k:l.length≤1048576) (j:w.heap[c]? =some (.cells #[.int .u8 13,.int .u8 10] 5 (2,3))):
  Calls Tryz.prog 97 #[.slice (some ⟨g,0,none⟩) l.length a,.slice (some ⟨c,0,none⟩) 2 2] w fun e f=>e= .returned (.tuple #[if pK l then .slice (some ⟨g,0,none⟩) (l.length - 2) a else .slice (some ⟨g,0,none⟩) l.length a,.bool (pK l)])∧f=w:=by
 refine (Tryz.bytes_CutSuffix g 0 l.length a c 0 2 2 (qQ l) [13,10] w (by simp [qQ]) rfl b (by omega) (fun i d=>?_) (fun i d=>?_)).mono ?_
 ·rw [Nat.zero_add,AO l i d];exact h i d
 ·rw [Nat.zero_add,Lib.cell_of_heap j];have:i=0∨i=1:=by omega
  rcases this with rfl | rfl <;> rfl
 ·rintro e f ⟨rfl,rfl⟩;refine ⟨?_,rfl⟩;unfold Lib.bytesTrimSuffix Lib.sliceTo;rw [yI,show Lib.bytesOf [13,10]=[13,10] from rfl];rfl
structure fG [Kn] (E:Nat→Prop) (pp pb mb sb ch bl:Nat) (c:bX) (w:World) (A:Nat→Prop) (q:Nat→Nat) (vr:Value) (S:aa) (recs:List UInt8) (vw v:Value) (acc:List UInt8) (ls:List (List UInt8)) (s:bG):Prop where
 env:gg E w pp c
 ses:cI w A pp pb sb ch vw ls s
 row:lF w vw s.wait
 bag:fv w pb mb q vr S recs
 bld:jE 0 w bl v acc
 ea:∀k,E k→¬A k
 eb:∀k,E k→¬an w pb mb q vr S k
 ab:∀k,A k→¬an w pb mb q vr S k
 wd:∀g,vw.ownBlock=some g→¬E g∧¬A g∧¬an w pb mb q vr S g∧g≠bl∧v.ownBlock≠some g
 ld:¬E bl∧¬A bl∧¬an w pb mb q vr S bl
 vd:∀g,v.ownBlock=some g→¬E g∧¬A g∧¬an w pb mb q vr S g
section
variable {E:Nat→Prop} {pp pb mb sb ch bl:Nat} {c:bX} {w w':World} {A A':Nat→Prop} {q q':Nat→Nat} {vr vr':Value} {S S':aa} {recs recs':List UInt8} {vw vw' v v':Value} {acc acc':List UInt8} {ls ls':List (List UInt8)} {s s':bG}
theorem fG.rowLt [Kn] (h:fG E pp pb mb sb ch bl c w A q vr S recs vw v acc ls s) {g:Nat} (d:vw.ownBlock=some g):g < w.heap.size:=by
 obtain ⟨a,b⟩:=dm h.row d;exact ah b
theorem fG.blLt [Kn] (h:fG E pp pb mb sb ch bl c w A q vr S recs vw v acc ls s):bl < w.heap.size:=by
 obtain ⟨p,_,a⟩:=h.bld.blk;exact ah a
theorem fG.vLt [Kn] (h:fG E pp pb mb sb ch bl c w A q vr S recs vw v acc ls s) {g:Nat} (d:v.ownBlock=some g):g < w.heap.size:=by
 obtain ⟨a,z,b⟩:=gB h.bld.row d;exact ah b
def ug (w:World) (pb mb bl:Nat) (A:Nat→Prop) (q:Nat→Nat) (vr:Value) (S:aa) (vw v:Value) (k:Nat):Prop:=A k∨an w pb mb q vr S k∨k=bl∨v.ownBlock=some k∨vw.ownBlock=some k
theorem j6 {B:Nat→Prop} (h:jE 0 w bl v acc) (a:aH B w w') (b:¬B bl) (d:∀g,v.ownBlock=some g→¬B g):jE 0 w' bl v acc:=by
 obtain ⟨p,f,e⟩:=h.blk;exact ⟨⟨p,f,a.some_ e b⟩,BA h.row a d,h.far⟩
theorem fG.line [Kn] (h:fG E pp pb mb sb ch bl c w A q vr S recs vw v acc ls s) (l:gp A pp pb mb sb ch vw q vr S w s' S' recs' ls' w') (m:s'.wait=s.wait):∃A' q' vr',fG E pp pb mb sb ch bl c w' A' q' vr' S' recs' vw v acc ls' s'∧(∀k,A' k→A k∨w.heap.size≤k)∧(∀k,an w' pb mb q' vr' S' k→an w pb mb q vr S k∨w.heap.size≤k)∧aH (fun k=>A k∨an w pb mb q vr S k) w w':=by
 obtain ⟨A',q',vr',p,r,y,f,i,t,d⟩:=l;have j:∀k,E k→¬(A k∨an w pb mb q vr S k):=fun k e x=>x.elim (h.ea k e) (h.eb k e);have b:∀{k:Nat},k < w.heap.size→¬A k→¬an w pb mb q vr S k→¬A' k∧¬an w' pb mb q' vr' S' k:=fun u n o=>⟨fun e=>(f _ e).elim n (fun e=>by omega),fun e=>(i _ e).elim o (fun e=>by omega)⟩;refine ⟨A',q',vr',⟨h.env.chg d j,p,?_,r,?_,?_,?_,t,?_,?_,?_⟩,f,i,d⟩
 ·rw [m];exact bC h.row d (fun g a e=>e.elim (h.wd g a).2.1 (h.wd g a).2.2.1)
 ·exact j6 h.bld d (fun e=>e.elim h.ld.2.1 h.ld.2.2) (fun g a e=>e.elim (h.vd g a).2.1 (h.vd g a).2.2)
 ·exact fun k e=>(b (h.env.lt k e) (h.ea k e) (h.eb k e)).1
 ·exact fun k e=>(b (h.env.lt k e) (h.ea k e) (h.eb k e)).2
 ·intro g a;have:=b (h.rowLt a) (h.wd g a).2.1 (h.wd g a).2.2.1;exact ⟨(h.wd g a).1,this.1,this.2,(h.wd g a).2.2.2⟩
 ·have:=b h.blLt h.ld.2.1 h.ld.2.2;exact ⟨h.ld.1,this.1,this.2⟩
 ·intro g a;have:=b (h.vLt a) (h.vd g a).2.1 (h.vd g a).2.2;exact ⟨(h.vd g a).1,this.1,this.2⟩
theorem fG.below [Kn] (h:fG E pp pb mb sb ch bl c w A q vr S recs vw v acc ls s) (d:Below w.heap.size w w'):fG E pp pb mb sb ch bl c w' A q vr S recs vw v acc ls s:=by
 have f:aH (fun _=>False) w w':=aH.below d;obtain ⟨i,b⟩:=h.bag.chg f (fun _ _ e=>e);exact ⟨h.env.below d,h.ses.below d,bC h.row f (fun _ _ e=>e),i,j6 h.bld f (fun e=>e) (fun _ _ e=>e),h.ea,fun k e x=>h.eb k e (b k x),fun k e x=>h.ab k e (b k x),fun g a=>⟨(h.wd g a).1,(h.wd g a).2.1,fun x=>(h.wd g a).2.2.1 (b g x),(h.wd g a).2.2.2⟩,⟨h.ld.1,h.ld.2.1,fun x=>h.ld.2.2 (b _ x)⟩,fun g a=>⟨(h.vd g a).1,(h.vd g a).2.1,fun x=>(h.vd g a).2.2 (b g x)⟩⟩
theorem fG.cut [Kn] (h:fG E pp pb mb sb ch bl c w A q vr S recs vw v acc ls s) {C:Array Value} {y:List UInt8} {j:Value} (I:C=iq pp pb ch vw j s) (n:bT w sb ch (iq pp pb ch vw j s) ls) (M:oh w A j s.tx) (K:oI sb C vw y w w'):∃vw',fG E pp pb mb sb ch bl c w' A q vr S recs vw' v acc ls {s with wait:=y}∧aH (fun k=>k=sb∨vw.ownBlock=some k) w w'∧(∀g,vw'.ownBlock=some g→vw.ownBlock=some g∨w.heap.size≤g)∧∀k,an w' pb mb q vr S k→an w pb mb q vr S k:=by
 obtain ⟨vw',m,f,B⟩:=K;subst I;have H:∀k,E k→¬(k=sb∨vw.ownBlock=some k):=fun k e x=>x.elim (fun a=>h.ea k e (by rw [a];exact h.ses.asb)) (fun a=>(h.wd k a).1 e);have G:∀k,an w pb mb q vr S k→¬(k=sb∨vw.ownBlock=some k):=fun k e x=>x.elim (fun a=>h.ab k (by rw [a];exact h.ses.asb) e) (fun a=>(h.wd k a).2.2.1 e);obtain ⟨F,i⟩:=h.bag.chg f G;have d:∀g,vw'.ownBlock=some g→vw.ownBlock=some g∨w.heap.size≤g:=B;obtain ⟨N,r,p⟩:=n.chan;have l:¬(ch=sb∨vw.ownBlock=some ch):=fun x=>x.elim (fun e=>n.ne e.symm) (fun e=>(h.wd ch e).2.1 h.ses.ach);have o:bT w' sb ch (iq pp pb ch vw' j {s with wait:=y}) ls:=⟨m.blk,m.size,rfl,N,r,f.some_ p l⟩;have u:oh w' A j s.tx:=M.off f (fun k C t z D e L x=>x.elim (fun a=>tg n k C t z e L (.inl a)) (fun a=>(h.wd k a).2.1 D));refine ⟨vw',⟨h.env.chg f H,⟨⟨j,o,u⟩,h.ses.asb,h.ses.ach,fun k J=>Nat.lt_of_lt_of_le (h.ses.lt k J) f.size⟩,m.row,F,j6 h.bld f (fun x=>x.elim (fun e=>h.ld.2.1 (by rw [e];exact h.ses.asb)) (fun e=>(h.wd bl e).2.2.2.1 rfl)) (fun g b x=>x.elim (fun e=>(h.vd g b).2.1 (by rw [e];exact h.ses.asb)) (fun e=>(h.wd g e).2.2.2.2 b)),h.ea,fun k e x=>h.eb k e (i k x),fun k e x=>h.ab k e (i k x),fun g b=>?_,⟨h.ld.1,h.ld.2.1,fun x=>h.ld.2.2 (i _ x)⟩,fun g b=>⟨(h.vd g b).1,(h.vd g b).2.1,fun x=>(h.vd g b).2.2 (i g x)⟩⟩,f,d,i⟩
 rcases d g b with e | e
 ·exact ⟨(h.wd g e).1,(h.wd g e).2.1,fun x=>(h.wd g e).2.2.1 (i g x),(h.wd g e).2.2.2⟩
 ·exact ⟨fun x=>by have:=h.env.lt g x;omega,fun x=>by have:=h.ses.lt g x;omega,fun x=>by have:=an.lt h.bag (i g x);omega,fun x=>by have:=h.blLt;omega,fun x=>by have:=h.vLt x;omega⟩
theorem fG.told [Kn] (h:fG E pp pb mb sb ch bl c w A q vr S recs vw v acc ls s) {y r:Nat} (f:aH (fun k=>k=ch∨k=bl∨v.ownBlock=some k) w w') (u:∀g,v'.ownBlock=some g→v.ownBlock=some g∨w.heap.size≤g) (I:jE 0 w' bl v' acc') (l:w'.heap[ch]? =some (.chan 3 #[] false y r false)):fG E pp pb mb sb ch bl c w' A q vr S recs vw v' acc' [] s∧∀k,an w' pb mb q vr S k→an w pb mb q vr S k:=by
 obtain ⟨o,i,L⟩:=h.ses.ex
 have G:∀k,E k→¬(k=ch∨k=bl∨v.ownBlock=some k):=fun k e x=>by
  rcases x with x | x | x
  ·exact h.ea k e (by rw [x];exact h.ses.ach)
  ·exact h.ld.1 (by rw [←x];exact e)
  ·exact (h.vd k x).1 e
 have F:∀k,an w pb mb q vr S k→¬(k=ch∨k=bl∨v.ownBlock=some k):=fun k e x=>by
  rcases x with x | x | x
  ·exact h.ab k (by rw [x];exact h.ses.ach) e
  ·exact h.ld.2.2 (by rw [←x];exact e)
  ·exact (h.vd k x).2.2 e
 obtain ⟨D,d⟩:=h.bag.chg f F
 have p:∀k,A k→k≠ch→¬(k=ch∨k=bl∨v.ownBlock=some k):=fun k a n x=>by
  rcases x with x | x | x
  ·exact n x
  ·exact h.ld.2.1 (by rw [←x];exact a)
  ·exact (h.vd k x).2.1 a
 have j:bT w' sb ch (iq pp pb ch vw o s) []:=⟨f.some_ i.blk (p sb h.ses.asb i.ne),i.size,i.told,y,r,l⟩;have m:oh w' A o s.tx:=L.off f (fun k C t z B e K=>p k B (fun H=>tg i k C t z e K (.inr H)));refine ⟨⟨h.env.chg f G,⟨⟨o,j,m⟩,h.ses.asb,h.ses.ach,fun k J=>Nat.lt_of_lt_of_le (h.ses.lt k J) f.size⟩,bC h.row f (fun g b x=>?_),D,I,h.ea,fun k e x=>h.eb k e (d k x),fun k e x=>h.ab k e (d k x),fun g b=>⟨(h.wd g b).1,(h.wd g b).2.1,fun x=>(h.wd g b).2.2.1 (d g x),(h.wd g b).2.2.2.1,fun x=>?_⟩,⟨h.ld.1,h.ld.2.1,fun x=>h.ld.2.2 (d _ x)⟩,fun g b=>?_⟩,d⟩
 ·rcases x with x | x | x
  ·exact (h.wd g b).2.1 (by rw [x];exact h.ses.ach)
  ·exact (h.wd g b).2.2.2.1 x
  ·exact (h.wd g b).2.2.2.2 x
 ·rcases u g x with e | e
  ·exact (h.wd g b).2.2.2.2 e
  ·have:=h.rowLt b;omega
 ·rcases u g b with e | e
  ·exact ⟨(h.vd g e).1,(h.vd g e).2.1,fun x=>(h.vd g e).2.2 (d g x)⟩
  ·exact ⟨fun x=>by have:=h.env.lt g x;omega,fun x=>by have:=h.ses.lt g x;omega,fun x=>by have:=an.lt h.bag (d g x);omega⟩
end
theorem Ak (a:List UInt8) (g:Bool) (m:Int) (w:World) (d:a.length≤1048576) (b:g=false→fp a) (f:w.cell? ⟨0,0,none⟩=some (.int .i64 m)):
  Calls Tryz.prog 103 #[.agg #[.string (bs a),.bool g]] w fun e t=>e= .returned (jo (bn a g))∧Below w.heap.size w t:=by
 cases g with
 | true=>exact Al a w
 | false=>
  have b:=b rfl;have e:bn a false=Ed (Lib.toUpperA (cz 32 a).1) (cz 32 a).2.1 (cz 32 a).2.2:=rfl;rw [e];unfold Ed
  by_cases h:Lib.toUpperA (cz 32 a).1=[81,85,73,84]
  ·rw [if_pos h];exact fA a m w d b f h (.inl ⟨rfl,rfl⟩)
  rw [if_neg h]
  by_cases i:Lib.toUpperA (cz 32 a).1=[78,79,79,80]
  ·rw [if_pos i];exact fA a m w d b f i (.inr (.inl ⟨rfl,rfl⟩))
  rw [if_neg i]
  by_cases j:Lib.toUpperA (cz 32 a).1=[82,83,69,84]
  ·rw [if_pos j];exact fA a m w d b f j (.inr (.inr (.inl ⟨rfl,rfl⟩)))
  rw [if_neg j]
  by_cases k:Lib.toUpperA (cz 32 a).1=[68,65,84,65]
  ·rw [if_pos k];exact fA a m w d b f k (.inr (.inr (.inr (.inl ⟨rfl,rfl⟩))))
  rw [if_neg k]
  by_cases l:Lib.toUpperA (cz 32 a).1=[72,69,76,79]
  ·rw [if_pos l];exact fA a m w d b f l (.inr (.inr (.inr (.inr (.inl ⟨rfl,rfl⟩)))))
  rw [if_neg l]
  by_cases n:Lib.toUpperA (cz 32 a).1=[69,72,76,79]
  ·rw [if_pos n];exact fA a m w d b f n (.inr (.inr (.inr (.inr (.inr (.inl ⟨rfl,rfl⟩))))))
  rw [if_neg n]
  by_cases o:Lib.toUpperA (cz 32 a).1=[65,85,84,72]
  ·rw [if_pos o];exact fA a m w d b f o (.inr (.inr (.inr (.inr (.inr (.inr (.inl ⟨rfl,rfl⟩)))))))
  rw [if_neg o]
  by_cases p:Lib.toUpperA (cz 32 a).1=[77,65,73,76]
  ·rw [if_pos p];exact fA a m w d b f p (.inr (.inr (.inr (.inr (.inr (.inr (.inr (.inl ⟨rfl,rfl⟩))))))))
  rw [if_neg p]
  by_cases r:Lib.toUpperA (cz 32 a).1=[82,67,80,84]
  ·rw [if_pos r];exact fA a m w d b f r (.inr (.inr (.inr (.inr (.inr (.inr (.inr (.inr ⟨rfl,rfl⟩))))))))
  rw [if_neg r];exact yL a m w d b f (by unfold JM;simp [h,i,j,k,l,n,o,p,r])
structure DZ (k:og):Prop where
 verb:k.verb≤10
 name:k.name=[]∨dH k.name=true
 rcpt:k.verb=10→dH k.name=true
theorem zp (v:Nat) (h:v≤9):DZ (rJ v):=⟨by show v≤10;omega,.inl rfl,fun e=>by have e:v=10:=e;omega⟩
theorem Ex (l:List UInt8):dY l=[]∨dH (dY l)=true:=by
 cases h:(jb l).2 with
 | true=>exact .inr (qI h)
 | false=>left;unfold dY;rw [h];rfl
theorem Bw (b:List UInt8) (a:Bool):DZ (bn b a):=by
 unfold bn
 cases a with
 | true=>exact zp 0 (by decide)
 | false=>
  simp only [Bool.false_eq_true,if_false];unfold Ed la mW;have d:DZ iI:=zp 1 (by decide)
  repeat' split
  all_goals first
   | exact d
   | exact zp _ (by decide)
   | skip
  ·unfold ry
   split
   ·split
    ·exact ⟨show (8:Nat)≤10 by omega,.inl rfl,fun e=>by cases e⟩
    ·exact d
   ·exact d
  ·unfold uJ;simp only
   split
   ·exact ⟨show (9:Nat)≤10 by omega,Ex _,fun e=>by cases e⟩
   ·exact d
  ·unfold vc;simp only
   split
   ·rename_i f
    rw [Bool.and_eq_true] at f;exact ⟨Nat.le_refl 10,.inr (qI f.2),fun _=>qI f.2⟩
   ·exact d
section
variable {A:Nat→Prop} {pp pb mb sb ch:Nat} {vw:Value} {q:Nat→Nat} {vr:Value} {S:aa} {recs:List UInt8} {w:World} {s:bG} {E:Nat→Prop} {c:bX}
theorem H8 (h:cI w A pp pb sb ch vw [] s) (g:gg E w pp c) (f:∀k,E k→¬A k) (k:og) (n:k.verb≤10) (m:k.name.length≤1048576) (j:∀t,s.tx=some t→t.body=none∧t.tos.length≤10):
  Calls Tryz.prog 102 #[.pointer (some ⟨sb,0,none⟩),jo k] w (cP A pp pb sb ch vw w (bz c s k).1 (bz c s k).2):=by
 obtain ⟨v,b,d,a⟩:=k;simp only at n m;unfold jo bz;simp only
 cases e:fO s v with
 | false=>
  simp only [if_true];exact Dp h g f b a d v e
 | true=>
  simp only [Bool.true_eq_false,if_false];have l:v=0∨v=1∨v=2∨v=3∨v=4∨v=5∨v=6∨v=7∨v=8∨v=9∨v=10:=by omega
  rcases l with rfl | rfl | rfl | rfl | rfl | rfl | rfl | rfl | rfl | rfl | rfl
  ·exact gz h g f b a d rfl e (.inl ⟨rfl,rfl,rfl⟩)
  ·exact gz h g f b a d rfl e (.inr (.inl ⟨rfl,rfl,rfl⟩))
  ·exact gz h g f b a d rfl e (.inr (.inr (.inl ⟨rfl,rfl,rfl⟩)))
  ·exact gz h g f b a d rfl e (.inr (.inr (.inr (.inl ⟨rfl,rfl,rfl⟩))))
  ·exact gz h g f b a d rfl e (.inr (.inr (.inr (.inr (.inl ⟨rfl,rfl,rfl⟩)))))
  ·cases i:s.tx with
   | none=>rw [show fO s 5=false by unfold fO jA;rw [i];rfl] at e;cases e
   | some t=>exact gz h g f b a d rfl e (.inr (.inr (.inr (.inr (.inr (.inl ⟨_,i,rfl,rfl,rfl⟩))))))
  ·exact gz h g f b a d rfl e (.inr (.inr (.inr (.inr (.inr (.inr (.inl ⟨rfl,rfl,rfl⟩)))))))
  ·exact gz h g f b a d rfl e (.inr (.inr (.inr (.inr (.inr (.inr (.inr (.inl ⟨rfl,rfl,rfl⟩))))))))
  ·exact gz h g f b a d rfl e (.inr (.inr (.inr (.inr (.inr (.inr (.inr (.inr (.inl ⟨rfl,rfl,rfl⟩)))))))))
  ·exact gz h g f b a d rfl e (.inr (.inr (.inr (.inr (.inr (.inr (.inr (.inr (.inr (.inl ⟨rfl,rfl,rfl⟩))))))))))
  ·cases i:s.tx with
   | none=>rw [show fO s 10=false by unfold fO jA;rw [i];rfl] at e;cases e
   | some t=>exact gz h g f b a d rfl e (.inr (.inr (.inr (.inr (.inr (.inr (.inr (.inr (.inr (.inr ⟨_,i,(j t i).1,m,(j t i).2,rfl,rfl,rfl⟩))))))))))
theorem E2 [Kn] (h:cI w A pp pb sb ch vw [] s) (r:gg E w pp c) (f:fv w pb mb q vr S recs) (x:oJ S recs) {t:mK} (u:s.tx=some t) (j:tA t) {b:dW} (p:t.body=some b) (g:∀k,A k→¬an w pb mb q vr S k) (m:∀k,E k→¬an w pb mb q vr S k) (i:∀k,E k→¬A k) (a:List UInt8) (d:Bool) (n:a.length≤1048576):
  Calls Tryz.prog 101 #[.pointer (some ⟨sb,0,none⟩),.agg #[.string (bs a),.bool d]] w fun e v=>e= .returned (.tuple #[])∧gp A pp pb mb sb ch vw q vr S w (dn c s S recs t b a d).1 (dn c s S recs t b a d).2.1 (dn c s S recs t b a d).2.2.1 (dn c s S recs t b a d).2.2.2 v:=by
 unfold dn
 by_cases l:a=[46]
 ·subst l;simp only [if_true];exact E4 h r f x u j p g m i d
 ·simp only [l,if_false];refine (E1 h r u j p a d l n).mono ?_;intro e v o;exact ⟨o.1,gp.step f g o⟩
end
def aO (c:bX) (s:bG) (S:aa) (recs:List UInt8) (text:List UInt8) (bad:Bool):bG×aa×List UInt8×List (List UInt8):=
 match s.tx with
 | some t=>(match t.body with
  | some b=>dn c s S recs t b text bad
  | none=>((bz c s (bn text bad)).1,S,recs,(bz c s (bn text bad)).2))
 | none=>((bz c s (bn text bad)).1,S,recs,(bz c s (bn text bad)).2)
section
variable {E:Nat→Prop} {pp pb mb sb ch bl:Nat} {c:bX} {w:World} {A:Nat→Prop} {q:Nat→Nat} {vr:Value} {S:aa} {recs:List UInt8} {vw v:Value} {acc:List UInt8} {ls:List (List UInt8)} {s:bG}
theorem fG.take_d [Kn] (h:fG E pp pb mb sb ch bl c w A q vr S recs vw v acc ls s) (hl:∀l∈ls,l.length≤1048576) (u:FrameMode) (L:acc.length+ls.flatten.length≤140737488355328):
  CallsD Tryz.prog 63 #[.pointer (some ⟨sb,0,none⟩),.pointer (some ⟨bl,0,none⟩)] u w fun e u' B=>u'=u∧e= .returned (.tuple #[])∧∃d,fG E pp pb mb sb ch bl c B A q vr S recs vw d (acc++ls.flatten) [] s∧aH (fun k=>k=ch∨k=bl∨v.ownBlock=some k) w B∧(∀k,an B pb mb q vr S k→an w pb mb q vr S k)∧∀g,d.ownBlock=some g→v.ownBlock=some g∨w.heap.size≤g:=by
 obtain ⟨vx,I,hx⟩:=h.ses.ex;obtain ⟨sq,r,G⟩:=I.chan;have C:ch≠bl:=fun e=>h.ld.2.1 (by rw [←e];exact h.ses.ach)
 have P:¬(sb=ch∨sb=bl∨v.ownBlock=some sb):=fun x=>by
  rcases x with x | x | x
  ·exact I.ne x
  ·exact h.ld.2.1 (by rw [←x];exact h.ses.asb)
  ·exact (h.vd sb x).2.1 h.ses.asb
 let Bd:List UInt8→World→Prop:=fun a B=>∃d,jE 0 B bl d a∧(∀g,d.ownBlock=some g→v.ownBlock=some g∨w.heap.size≤g)∧aH (fun k=>k=ch∨k=bl∨v.ownBlock=some k) w B∧∃j y t,B.heap[ch]? =some (.chan 3 j false y t false)
 have R:=vR Bd sb ch sq r false (.pointer (some ⟨bl,0,none⟩)) ls acc u w ?_ ?_ ?_ ⟨v,h.bld,fun g e=> .inl e,aH.refl _ _,_,_,_,G⟩ G hl L
 ·refine R.mono ?_;rintro e u' B ⟨rfl,rfl,y,t,⟨d,n,p,i,_⟩,b⟩;obtain ⟨x1,x2⟩:=h.told i p n b;exact ⟨rfl,rfl,d,x1,i,x2,p⟩
 ·rintro a l W ⟨d,n,p,i,j,y,t,b⟩ _ H
  have m:d.ownBlock≠some ch:=fun e=>by
   obtain ⟨J,z,F⟩:=gB n.row e;rw [b] at F;cases F
  refine (r8 0 bl d a l W n (Nat.zero_le _) H).mono ?_;rintro e T ⟨⟨rv,rfl⟩,⟨v2,X,Y⟩,K,Z,Q⟩
  have M:aH (fun k=>k=bl∨d.ownBlock=some k) W T:=⟨Q,fun k D V=>by
   rw [Array.getElem?_eq_getElem D]
   exact K k _ (Array.getElem?_eq_getElem D) (fun e=>V (.inl e)) (fun e=>V (.inr e)),Z⟩
  refine ⟨⟨rv,rfl⟩,⟨v2,X,fun g N=>(Y g N).elim (p g) (fun e=> .inr (Nat.le_trans i.size e)),i.trans M (fun k D e=>e.elim (fun e=> .inr (.inl e)) (fun e=>(p k e).elim (fun e=> .inr (.inr e)) (fun e=>absurd D (by omega)))),j,y,t,K ch _ b C m⟩,fun o ho=>K ch o ho C m⟩
 ·rintro a W ⟨d,n,p,i,_⟩;rw [Lib.cell_of_heap (i.some_ I.blk P)];exact I.told
 ·rintro a W j f y t ⟨d,n,p,i,_⟩ b;have O:ch < W.heap.size:=ah b;have U:aL ch W (W.setChan ch 3 f false y (t+1) false):=⟨by simp [World.setChan],fun k D=>by simp [World.setChan,Array.getElem?_setIfInBounds_ne (Ne.symm D)],⟨rfl,rfl,rfl⟩⟩
  have m:d.ownBlock≠some ch:=fun e=>by
   obtain ⟨J,z,F⟩:=gB n.row e;rw [b] at F;cases F
  refine ⟨d,j6 n (aH.same U) (fun e=>C e.symm) (fun g N e=>m (by rw [←e];exact N)),p,i.trans (aH.same U) (fun _ _ e=> .inl e),f,y,t+1,Conc.heap_setChan W ch 3 f false y (t+1) false O⟩
def nK [Kn] (E A:Nat→Prop) (pp pb mb sb ch bl:Nat) (c:bX) (q:Nat→Nat) (vr:Value) (S:aa) (vw v:Value) (w:World) (s':bG) (S':aa) (recs' acc':List UInt8) (w':World):Prop:=
 ∃A' q' vr' vw' v',fG E pp pb mb sb ch bl c w' A' q' vr' S' recs' vw' v' acc' [] s'∧(∀k,ug w' pb mb bl A' q' vr' S' vw' v' k→ug w pb mb bl A q vr S vw v k∨w.heap.size≤k)∧aH (ug w pb mb bl A q vr S vw v) w w'
theorem xG [Kn] {j o p:World} {r:Nat→Prop} {n:Nat→Nat} {d u:Value} {l:aa} {b f:List UInt8} {y:bG} (h:fG E pp pb mb sb ch bl c w A q vr S recs vw v acc [] s) (m:Below w.heap.size w j)
  (x:aH (fun k=>A k∨an j pb mb q vr S k) j o) (z:∀k,r k→A k∨j.heap.size≤k) (t:∀k,an o pb mb n d l k→an j pb mb q vr S k∨j.heap.size≤k) (B:fG E pp pb mb sb ch bl c p r n d l b vw u f [] y) (C:aH (fun k=>k=ch∨k=bl∨v.ownBlock=some k) o p) (D:∀k,an p pb mb n d l k→an o pb mb n d l k) (F:∀g,u.ownBlock=some g→v.ownBlock=some g∨o.heap.size≤g):nK E A pp pb mb sb ch bl c q vr S vw v w y l b f p:=by
 have i:∀k,an j pb mb q vr S k→an w pb mb q vr S k:=fun k e=>e.imp (fun e=>cR h.bag.inn m e) id;refine ⟨r,n,d,vw,u,B,fun k a=>?_,(((aH.below m:aH (ug w pb mb bl A q vr S vw v) w j)).trans x (fun k _ e=>e.imp id (fun e=> .inl (i k e)))).trans C (fun k _ e=>?_)⟩
 ·rcases a with a | a | a | a | a
  ·exact (z k a).imp .inl (fun e=>Nat.le_trans m.size e)
  ·exact (t k (D k a)).imp (fun e=> .inr (.inl (i k e))) (fun e=>Nat.le_trans m.size e)
  ·exact .inl (.inr (.inr (.inl a)))
  ·exact (F k a).imp (fun e=> .inr (.inr (.inr (.inl e)))) (fun e=>Nat.le_trans (Nat.le_trans m.size x.size) e)
  ·exact .inl (.inr (.inr (.inr (.inr a))))
 ·rcases e with e | e | e
  ·exact .inl (by rw [e];exact h.ses.ach)
  ·exact .inr (.inr (.inl e))
  ·exact .inr (.inr (.inr (.inl e)))
theorem CN [Kn] (h:fG E pp pb mb sb ch bl c w A q vr S recs vw v acc [] s) (Z:oJ S recs) {t:mK} (P:s.tx=some t) (G:tA t) {b:dW} (O:t.body=some b) (a:List UInt8) (d:Bool) (F:a.length≤1048576) (m:∀l∈(dn c s S recs t b a d).2.2.2,l.length≤1000) (a0:(dn c s S recs t b a d).2.2.2.flatten.length≤3000) (X:acc.length≤1099511627776) (n:(dn c s S recs t b a d).1.wait=s.wait):
  Calls Tryz.prog 67 #[.pointer (some ⟨sb,0,none⟩),.agg #[.string (bs a),.bool d],.pointer (some ⟨bl,0,none⟩)] w fun e w'=>e= .returned (.tuple #[])∧nK E A pp pb mb sb ch bl c q vr S vw v w (dn c s S recs t b a d).1 (dn c s S recs t b a d).2.1 (dn c s S recs t b a d).2.2.1 (acc++(dn c s S recs t b a d).2.2.2.flatten) w':=by
 obtain ⟨vx,J,K⟩:=h.ses.ex;rw [P] at K;obtain ⟨H,vt,vb,rfl,ha,N,hO,L⟩:=K;rw [O] at L;obtain ⟨I,vy,rfl,Y,B,W⟩:=L;obtain ⟨g,k⟩:∃g:World,w.alloc (.cells #[.string (bs a),.bool d] 138)=g:=⟨_,rfl⟩;have j:Below w.heap.size w g:=by rw [←k];exact (Below.refl _ _).alloc (Nat.le_refl _) _
 have z:g.heap[w.heap.size]? =some (.cells #[.string (bs a),.bool d] 138 (0,0)):=by rw [←k];exact heap_alloc_new w _
 have l0:g.cell? ⟨w.heap.size,0,none⟩=some (.string (bs a)):=by rw [Lib.cell_of_heap z];rfl
 have l1:g.cell? ⟨w.heap.size,1,none⟩=some (.bool d):=by rw [Lib.cell_of_heap z];rfl
 have c8:g.cell? ⟨sb,8,none⟩=some (.pointer (some ⟨H,0,none⟩)):=(J.below j).cell 8;have t2:g.cell? ⟨H,2,none⟩=some (.pointer (some ⟨I,0,none⟩)):=by rw [Lib.cell_of_heap (ae j N.blk)];rfl
 have i:=h.below j;have r:=Lib.hid (AL H I g t2);have u:=Lib.hid (E2 i.ses i.env i.bag Z P G O i.ab i.eb i.ea a d F);have Q:=Lib.hid h;have p:=Lib.hid i;have o:=Lib.hid j;have x:=Lib.hid m;have y:=Lib.hid n;clear h J N B i j z m n;go_enter_defers Tryz.func67,Tryz.ntmps67
 go_wp2_with fail
 refine r.out.mono ?_;rintro e w1 ⟨rfl,rfl⟩;go_wp2_with fail
 refine u.out.mono ?_;rintro e w2 ⟨rfl,M⟩;have R:=Lib.hid M;clear M;go_wp2_with fail
 refine leaves_cons (f:=63) (args:=#[.pointer (some ⟨sb,0,none⟩),.pointer (some ⟨bl,0,none⟩)]) (by simp) (by simp [go_sem]) ?_;obtain ⟨A1,q1,a1,C,g1,g2,g3⟩:=p.out.line R.out y.out;refine (C.take_d (fun l hl=>by have:=x.out l hl;omega) .returning (by omega)).mono ?_;rintro e u' w3 ⟨rfl,rfl,v3,D,T,U,V⟩;exact ⟨_,results_none rfl _ _ _,rfl,xG Q.out o.out g3 g1 g2 D T U V⟩
theorem xF [Kn] (h:fG E pp pb mb sb ch bl c w A q vr S recs vw v acc [] s) (u:∀t,s.tx=some t→t.body=none∧t.tos.length≤10) (a:List UInt8) (b:Bool) (Z:a.length≤1048576) (K:b=false→fp a) (J:∀l∈(bz c s (bn a b)).2,l.length≤1000) (Y:(bz c s (bn a b)).2.flatten.length≤3000) (a0:acc.length≤1099511627776) (L:(bz c s (bn a b)).1.wait=s.wait):
  Calls Tryz.prog 67 #[.pointer (some ⟨sb,0,none⟩),.agg #[.string (bs a),.bool b],.pointer (some ⟨bl,0,none⟩)] w fun e w'=>e= .returned (.tuple #[])∧nK E A pp pb mb sb ch bl c q vr S vw v w (bz c s (bn a b)).1 S recs (acc++(bz c s (bn a b)).2.flatten) w':=by
 obtain ⟨g,G⟩:∃g:World,w.alloc (.cells #[.string (bs a),.bool b] 138)=g:=⟨_,rfl⟩;have O:Below w.heap.size w g:=by rw [←G];exact (Below.refl _ _).alloc (Nat.le_refl _) _
 have R:g.heap[w.heap.size]? =some (.cells #[.string (bs a),.bool b] 138 (0,0)):=by rw [←G];exact heap_alloc_new w _
 have l0:g.cell? ⟨w.heap.size,0,none⟩=some (.string (bs a)):=by rw [Lib.cell_of_heap R];rfl
 have l1:g.cell? ⟨w.heap.size,1,none⟩=some (.bool b):=by rw [Lib.cell_of_heap R];rfl
 have n:=h.below O;obtain ⟨N,h1,d⟩:=n.ses.ex;have c8:g.cell? ⟨sb,8,none⟩=some N:=h1.cell 8;obtain ⟨m,hm⟩:=n.env.len
 have Q:Hid (Calls Tryz.prog 100 #[N] g fun e w'=>e= .returned (.bool false)∧g=w'):=Lib.hid (by
  cases x:s.tx with
  | none=>
   rw [x] at d;have d:N= .pointer none:=d;subst d;exact yY g
  | some t=>
   rw [x] at d;obtain ⟨tb,vt,vb,rfl,ha,hT,hO,M⟩:=d;rw [(u t x).1] at M;have M:vb= .pointer none:=M;subst M
   exact CL tb g (by rw [Lib.cell_of_heap hT.blk];rfl))
 obtain ⟨px,T⟩:∃p,N= .pointer p:=by
  cases x:s.tx with
  | none=>rw [x] at d;exact ⟨none,d⟩
  | some t=>rw [x] at d;obtain ⟨tb,vt,vb,e,_⟩:=d;exact ⟨_,e⟩
 subst T;have j:=Lib.hid (Ak a b m g Z K hm);have r:=Bw a b
 have I:(bn a b).name.length≤1048576:=by
  rcases r.name with e | e
  ·rw [e];simp
  ·have:=mY e;omega
 have i:Hid (∀W:World,Below g.heap.size g W→Calls Tryz.prog 102 #[.pointer (some ⟨sb,0,none⟩),jo (bn a b)] W (cP A pp pb sb ch vw W (bz c s (bn a b)).1 (bz c s (bn a b)).2)):=Lib.hid (fun W hb=>H8 (n.ses.below hb) (n.env.below hb) n.ea (bn a b) r.verb I u);have HH:=Lib.hid h;have P:=Lib.hid n;have y:=Lib.hid O;have C:=Lib.hid J;have D:=Lib.hid L;obtain ⟨kx,F⟩:∃k,bn a b=k:=⟨_,rfl⟩;rw [F] at j i C D Y ⊢;simp only [jo] at j i;clear h h1 d n O R J L hm r I K u F;go_enter_defers Tryz.func67,Tryz.ntmps67
 go_wp2_with fail
 refine Q.out.mono ?_;rintro e w1 ⟨rfl,rfl⟩;go_wp2_with fail
 refine j.out.mono ?_;rintro e w2 ⟨rfl,o⟩;have z:=Lib.hid o;have B:=Lib.hid (i.out w2 o);clear o i;go_wp2_with fail
 refine B.out.mono ?_;rintro e w3 U;have hr:=U.ret;subst hr;have HP:=Lib.hid U;clear U B;go_wp2_with fail
 refine leaves_cons (f:=63) (args:=#[.pointer (some ⟨sb,0,none⟩),.pointer (some ⟨bl,0,none⟩)]) (by simp) (by simp [go_sem]) ?_;have d:=P.out.below z.out;obtain ⟨A1,q1,a1,V,g1,g2,g3⟩:=d.line (gp.step d.bag d.ab HP.out) D.out;refine (V.take_d (fun l hl=>by have:=C.out l hl;omega) .returning (by omega)).mono ?_;rintro e u' w4 ⟨rfl,rfl,v4,X,g4,g5,g6⟩;have H:Below w.heap.size w w2:=y.out.trans (z.out.mono y.out.size);exact ⟨_,results_none rfl _ _ _,rfl,xG HH.out H g3 g1 g2 X g4 g5 g6⟩
end
structure gM (c:bX) (s:bG) (S:aa) (recs:List UInt8):Prop where
 tx:∀t,s.tx=some t→tA t∧(t.tos.length:Int)≤c.most
 time:S.time≤1000000000
 len:zP S recs
 recs:S.Ok
 wait:s.wait.length≤102
theorem gM.keep {c:bX} {s:bG} {S:aa} {a:List UInt8} (h:gM c s S a):oJ S a:=⟨h.time,by have:=h.len.items;omega,by have:=h.len.len;omega⟩
theorem gM.none {c:bX} {s s':bG} {S:aa} {a:List UInt8} (h:gM c s S a) (b:s'.tx=none) (d:s'.wait=s.wait):gM c s' S a:=⟨(fun t e=>by rw [b] at e;cases e),h.time,h.len,h.recs,by rw [d];exact h.wait⟩
theorem gM.same {c:bX} {s b:bG} {S:aa} {a:List UInt8} (h:gM c s S a) (d:b.tx=s.tx) (f:b.wait=s.wait):gM c b S a:=⟨fun t e=>h.tx t (by rw [←d];exact e),h.time,h.len,h.recs,by rw [f];exact h.wait⟩
def rq (ls:List (List UInt8)):Prop:=(∀l∈ls,l.length≤1000)∧ls.flatten.length≤3000
theorem dj {l:List UInt8} (h:l.length≤1000):rq [l]:=⟨fun x a=>by simp at a;rw [a];exact h,by simp;omega⟩
theorem FQ:rq []:=⟨(fun x a=>by cases a),by simp⟩
theorem ur {n:Int} (a:0≤n) (h:n≤4294967295):(Lib.itoa n).length≤10:=by
 unfold Lib.itoa;rw [if_neg (by omega)];exact kZ _ 9 (by omega)
theorem AN {c:bX} (h:ij c=true):(cQ c).length≤255:=by
 have:=(kg h).host;have e:=aG (cQ c);rw [sT] at e;omega
theorem Dl {l:List (List UInt8)} {x:List UInt8} (h:l.Nodup) (d:l.contains x=false):(l++[x]).Nodup:=by
 rw [List.nodup_append];refine ⟨h,by simp,fun a f b c e=>?_⟩
 simp at c;subst c;subst e;have:=List.contains_iff_mem.2 f;rw [this] at d
 cases d
theorem Dt (d:List (List UInt8)) (a:Int) (c:Bool) (b:List UInt8):rq [b9 d a c b]:=by
 apply dj;unfold b9
 split
 ·decide
 ·split
  ·decide
  ·split <;> decide
theorem Jw {t:mK} {c:Int} (m:c≤10) (f:Bool) {a:List UInt8} (h:tA t) (i:(t.tos.length:Int)≤c) (k:dH a=true) (g:t.body=none):tA {t with tos:=cY t.tos c f a}∧((cY t.tos c f a).length:Int)≤c:=by
 unfold cY
 split
 ·exact ⟨⟨h.frm,h.tos,h.one,h.most,fun b e=>by rw [show ({t with tos:=t.tos}:mK).body=t.body from rfl,g] at e;cases e⟩,i⟩
 ·rename_i j
  split
  ·exact ⟨⟨h.frm,h.tos,h.one,h.most,fun b e=>by rw [show ({t with tos:=t.tos}:mK).body=t.body from rfl,g] at e;cases e⟩,i⟩
  ·rename_i l
   split
   ·refine ⟨⟨h.frm,fun x d=>?_,Dl h.one (by simpa using j),?_,fun b e=>by rw [show ({t with tos:=t.tos++[a]}:mK).body=t.body from rfl,g] at e;cases e⟩,?_⟩
    ·have d:x∈t.tos++[a]:=d;rw [List.mem_append] at d
     rcases d with d | d
     ·exact h.tos x d
     ·simp at d;rw [d];exact k
    ·show (t.tos++[a]).length≤10;rw [List.length_append];simp only [List.length_cons,List.length_nil];omega
    ·rw [List.length_append];simp only [List.length_cons,List.length_nil];omega
   ·exact ⟨⟨h.frm,h.tos,h.one,h.most,fun b e=>by rw [show ({t with tos:=t.tos}:mK).body=t.body from rfl,g] at e;cases e⟩,i⟩
theorem Fz {c:bX} {s:bG} {S:aa} {d:List UInt8} (u:ij c=true) (h:gM c s S d) (k:og) (o:DZ k) (q:∀t,s.tx=some t→t.body=none):gM c (bz c s k).1 S d∧(bz c s k).1.wait=s.wait∧rq (bz c s k).2:=by
 have D:=ly u;have B:=AN u;have C:=ur (n:=c.size) (by omega) (by omega);obtain ⟨v,f,g,a⟩:=k;have r:v=0∨v=1∨v=2∨v=3∨v=4∨v=5∨v=6∨v=7∨v=8∨v=9∨v=10:=by have:=o.verb;simp only at this;omega
 unfold bz;simp only
 cases i:fO s v with
 | false=>exact ⟨h,rfl,dj (by decide)⟩
 | true=>
  simp only [Bool.true_eq_false,if_false]
  rcases r with rfl | rfl | rfl | rfl | rfl | rfl | rfl | rfl | rfl | rfl | rfl
  ·exact ⟨h,rfl,dj (by decide)⟩
  ·exact ⟨h,rfl,dj (by decide)⟩
  ·exact ⟨h.same rfl rfl,rfl,dj (by decide)⟩
  ·exact ⟨h,rfl,dj (by decide)⟩
  ·exact ⟨h.none rfl rfl,rfl,dj (by decide)⟩
  ·cases j:s.tx with
   | none=>rw [show fO s 5=false by unfold fO jA;rw [j];rfl] at i;cases i
   | some t=>
    obtain ⟨m,p⟩:=h.tx t j
    have y:0 < t.tos.length:=by
     unfold fO jA at i;rw [j] at i;simp at i;exact i.1
    refine ⟨⟨fun A e=>?_,h.time,h.len,h.recs,h.wait⟩,rfl,dj (by decide)⟩;injection e with e;subst e;exact ⟨⟨m.frm,m.tos,m.one,m.most,fun b e=>by injection e with e;subst e;exact ⟨y,by simp⟩⟩,p⟩
  ·exact ⟨h.none rfl rfl,rfl,dj (by simp only [List.length_append,List.length_cons,List.length_nil];omega)⟩
  ·refine ⟨h.none rfl rfl,rfl,fun l w=>?_,?_⟩
   ·simp only [List.mem_cons,List.not_mem_nil,or_false] at w
    rcases w with rfl | rfl | rfl
    ·simp only [List.length_append,List.length_cons,List.length_nil];omega
    ·simp only [List.length_append,List.length_cons,List.length_nil];omega
    ·decide
   ·simp only [List.flatten_cons,List.flatten_nil,List.length_append,List.length_cons,List.length_nil];omega
  ·change gM c (pW c s a).1 S d∧(pW c s a).1.wait=s.wait∧rq (pW c s a).2;unfold pW
   split
   ·exact ⟨h,rfl,dj (by decide)⟩
   ·split
    ·exact ⟨h.same rfl rfl,rfl,dj (by decide)⟩
    ·exact ⟨h,rfl,dj (by decide)⟩
  ·change gM c (lV c s f (g:Int)).1 S d∧(lV c s f (g:Int)).1.wait=s.wait∧rq (lV c s f (g:Int)).2;unfold lV
   split
   ·exact ⟨h,rfl,dj (by decide)⟩
   ·split
    ·exact ⟨h,rfl,dj (by decide)⟩
    ·refine ⟨⟨fun t e=>?_,h.time,h.len,h.recs,h.wait⟩,rfl,dj (by decide)⟩;injection e with e;subst e;exact ⟨⟨o.name,(fun x z=>by cases z),List.nodup_nil,Nat.zero_le _,(fun b e=>by cases e)⟩,by show (0:Int)≤_;omega⟩
  ·cases j:s.tx with
   | none=>rw [show fO s 10=false by unfold fO jA;rw [j];rfl] at i;cases i
   | some t=>
    obtain ⟨m,p⟩:=h.tx t j;refine ⟨⟨fun A e=>?_,h.time,h.len,h.recs,h.wait⟩,rfl,Dt _ _ _ _⟩;injection e with e;subst e;exact Jw (by omega) _ m p (o.rcpt rfl) (q t j)
theorem I0 {b:dW} {a:List UInt8} {d:Bool} {c:Int} (h:b.text.length≤1102) (f:c≤1000) (g:a.length≤100):(b.add a d c).text.length≤1102:=by
 unfold dW.add;have:=vY a
 split
 ·exact h
 ·rename_i e
  show ((if b.has then b.text++[13,10] else b.text)++jP a).length≤1102;rw [List.length_append]
  split
  ·rw [List.length_append];simp only [List.length_cons,List.length_nil];omega
  ·omega
theorem CH (l:List UInt8):(bJ l).length=8+l.length:=by unfold bJ;simp only [List.length_append,bf];omega
theorem CM {c:bX} {s:bG} {S:aa} {a:List UInt8} (q:ij c=true) (h:gM c s S a) {t:mK} (u:s.tx=some t) {b:dW} (o:t.body=some b) (d:List UInt8) (f:Bool) (m:d.length≤100):
  gM c (dn c s S a t b d f).1 (dn c s S a t b d f).2.1 (dn c s S a t b d f).2.2.1∧(dn c s S a t b d f).1.wait=s.wait∧rq (dn c s S a t b d f).2.2.2:=by
 have x:=ly q;obtain ⟨g,r⟩:=h.tx t u;have i:=(g.body b o);unfold dn
 split
 ·unfold kz
  split
  ·exact ⟨h.none rfl rfl,rfl,dj (by decide)⟩
  ·split
   ·exact ⟨h.none rfl rfl,rfl,dj (by decide)⟩
   ·split
    ·rename_i j
     have l:((a.length+(8+(cA (eJ S t.frm t.tos b.text)).length):Nat):Int)≤c.room:=by
      unfold jt at j;simp only [Bool.not_eq_true',decide_eq_false_iff_not] at j;omega
     have k:=CH (cA (eJ S t.frm t.tos b.text));have p:=h.len.items;refine ⟨⟨(fun v e=>by cases e),h.time,?_,?_,h.wait⟩,rfl,dj ?_⟩
     ·show zP (S.plus (eJ S t.frm t.tos b.text)) (a++bJ (cA (eJ S t.frm t.tos b.text)));exact h.len.plus g.most (GL _) (by rw [k];omega)
     ·exact h.recs.plus rfl (td h.keep g o) i.1 g.most
     ·have:=ur (n:=(S.items.length:Int)+1) (by omega) (by omega);simp only [List.length_append,List.length_cons,List.length_nil];omega
    ·exact ⟨h.none rfl rfl,rfl,dj (by decide)⟩
 ·refine ⟨⟨fun v e=>?_,h.time,h.len,h.recs,h.wait⟩,rfl,FQ⟩;injection e with e;subst e;exact ⟨⟨g.frm,g.tos,g.one,g.most,fun w e=>by injection e with e;subst e;exact ⟨i.1,I0 i.2 (by omega) m⟩⟩,r⟩
theorem iU {c:bX} {s:bG} {S:aa} {d:List UInt8} (m:ij c=true) (h:gM c s S d) (a:List UInt8) (f:Bool) (l:a.length≤100):
  gM c (aO c s S d a f).1 (aO c s S d a f).2.1 (aO c s S d a f).2.2.1∧(aO c s S d a f).1.wait=s.wait∧rq (aO c s S d a f).2.2.2:=by
 have i:(∀t,s.tx=some t→t.body=none)→_:=fun k=>Fz m h (bn a f) (Bw a f) k
 cases g:s.tx with
 | none=>
  have e:aO c s S d a f=((bz c s (bn a f)).1,S,d,(bz c s (bn a f)).2):=by unfold aO;rw [g]
  rw [e];exact i (fun t e=>by rw [g] at e;cases e)
 | some t=>
  cases j:t.body with
  | none=>
   have e:aO c s S d a f=((bz c s (bn a f)).1,S,d,(bz c s (bn a f)).2):=by unfold aO;rw [g];simp only;rw [j]
   rw [e];exact i (fun n e=>by rw [g] at e;injection e with e;subst e;exact j)
  | some b=>
   have e:aO c s S d a f=dn c s S d t b a f:=by unfold aO;rw [g];simp only;rw [j]
   rw [e];exact CM m h g j a f l
theorem Hl (l:List UInt8):(jw l).1.length≤100∧((jw l).2=false→fp (jw l).1):=by
 unfold jw
 split
 ·exact ⟨by simp,fun e=>by cases e⟩
 ·rename_i h
  simp only [Bool.or_eq_true,decide_eq_true_eq,List.any_eq_true,not_or,not_exists,not_and] at h;refine ⟨by show l.length≤100;omega,fun _ x a=>?_⟩
  have:=h.2 x a;unfold tD at this;simp only [Bool.or_eq_true,decide_eq_true_eq,not_or] at this;omega
section
variable {E:Nat→Prop} {pp pb mb sb ch bl:Nat} {c:bX} {w:World} {A:Nat→Prop} {q:Nat→Nat} {vr:Value} {S:aa} {recs:List UInt8} {vw v:Value} {acc:List UInt8} {ls:List (List UInt8)} {s:bG}
theorem E5 [Kn] (h:fG E pp pb mb sb ch bl c w A q vr S recs vw v acc [] s) (m:gM c s S recs) (a:List UInt8) (d:Bool) (n:a.length≤100) (k:d=false→fp a) (i:acc.length≤1099511627776):
  Calls Tryz.prog 67 #[.pointer (some ⟨sb,0,none⟩),.agg #[.string (bs a),.bool d],.pointer (some ⟨bl,0,none⟩)] w fun e o=>e= .returned (.tuple #[])∧nK E A pp pb mb sb ch bl c q vr S vw v w (aO c s S recs a d).1 (aO c s S recs a d).2.1 (aO c s S recs a d).2.2.1 (acc++(aO c s S recs a d).2.2.2.flatten) o:=by
 obtain ⟨_,j,f⟩:=iU h.env.may m a d n
 cases g:s.tx with
 | none=>
  have e:aO c s S recs a d=((bz c s (bn a d)).1,S,recs,(bz c s (bn a d)).2):=by unfold aO;rw [g]
  rw [e] at j f ⊢;exact xF h (fun t e=>by rw [g] at e;cases e) a d (by omega) k f.1 f.2 i j
 | some t=>
  cases l:t.body with
  | none=>
   have e:aO c s S recs a d=((bz c s (bn a d)).1,S,recs,(bz c s (bn a d)).2):=by unfold aO;rw [g];simp only;rw [l]
   rw [e] at j f ⊢;exact xF h (fun p e=>by rw [g] at e;injection e with e;subst e;exact ⟨l,(m.tx t g).1.most⟩) a d (by omega) k f.1 f.2 i j
  | some b=>
   have e:aO c s S recs a d=dn c s S recs t b a d:=by unfold aO;rw [g];simp only;rw [l]
   rw [e] at j f ⊢;exact CN h m.keep g (m.tx t g).1 l a d (by omega) f.1 f.2 i j
end
def gQ (c:bX) (x:bG×aa×List UInt8×List UInt8) (b:UInt8):bG×aa×List UInt8×List UInt8:=
 if x.1.over then x else
 match j4 x.1.wait b with
 | (wt,none)=>({x.1 with wait:=wt},x.2.1,x.2.2.1,x.2.2.2)
 | (wt,some l)=>((aO c {x.1 with wait:=wt} x.2.1 x.2.2.1 l.1 l.2).1,(aO c {x.1 with wait:=wt} x.2.1 x.2.2.1 l.1 l.2).2.1,(aO c {x.1 with wait:=wt} x.2.1 x.2.2.1 l.1 l.2).2.2.1,x.2.2.2++(aO c {x.1 with wait:=wt} x.2.1 x.2.2.1 l.1 l.2).2.2.2.flatten)
def cL (c:bX) (x:bG×aa×List UInt8×List UInt8) (piece:List UInt8):bG×aa×List UInt8×List UInt8:=piece.foldl (gQ c) x
theorem vQ (a:List UInt8) (b:UInt8):(j4 a b).1.length≤102∧∀l,(j4 a b).2=some l→l.1.length≤100∧(l.2=false→fp l.1):=by
 unfold j4
 split
 ·refine ⟨by simp,fun l e=>?_⟩
  injection e with e;rw [←e];exact Hl _
 ·exact ⟨DI _,fun l e=>by cases e⟩
theorem FW {c:bX} (f:ij c=true) {x:bG×aa×List UInt8×List UInt8} (h:gM c x.1 x.2.1 x.2.2.1) (b:UInt8):gM c (gQ c x b).1 (gQ c x b).2.1 (gQ c x b).2.2.1∧(gQ c x b).2.2.2.length≤x.2.2.2.length+3000:=by
 unfold gQ
 split
 ·exact ⟨h,by omega⟩
 ·have a:=vQ x.1.wait b
  rcases hx:j4 x.1.wait b with ⟨e,o⟩;rw [hx] at a;have d:gM c {x.1 with wait:=e} x.2.1 x.2.2.1:=⟨h.tx,h.time,h.len,h.recs,a.1⟩
  cases o with
  | none=>exact ⟨d,Nat.le_add_right _ _⟩
  | some l=>
   obtain ⟨g,_,i⟩:=iU f d l.1 l.2 (a.2 l rfl).1;refine ⟨g,?_⟩;show (x.2.2.2++(aO c {x.1 with wait:=e} x.2.1 x.2.2.1 l.1 l.2).2.2.2.flatten).length≤_;rw [List.length_append];exact Nat.add_le_add_left i.2 _
theorem qO {c:bX} (d:ij c=true):∀(a:List UInt8) (x:bG×aa×List UInt8×List UInt8),gM c x.1 x.2.1 x.2.2.1→gM c (cL c x a).1 (cL c x a).2.1 (cL c x a).2.2.1∧(cL c x a).2.2.2.length≤x.2.2.2.length+3000 * a.length
 | [],x,h=>⟨h,by show x.2.2.2.length≤_;omega⟩
 | b::r,x,h=>by
  obtain ⟨e,g⟩:=FW d h b;obtain ⟨f,i⟩:=qO d r (gQ c x b) e;refine ⟨f,?_⟩;show (cL c (gQ c x b) r).2.2.2.length≤_;rw [List.length_cons];omega
theorem uh {c:bX} {x:bG×aa×List UInt8×List UInt8} (h:x.1.over=true):∀a,cL c x a=x
 | []=>rfl
 | b::r=>by
  show cL c (gQ c x b) r=x;have:gQ c x b=x:=by unfold gQ;rw [h];rfl
  rw [this];exact uh h r
theorem CO (c:bX) (x:bG×aa×List UInt8×List UInt8) (a:List UInt8) (k:Nat) (h:k < a.length):cL c x (a.take (k+1))=gQ c (cL c x (a.take k)) a[k]:=by
 unfold cL;rw [List.take_succ_eq_append_getElem h,List.foldl_append];rfl
def kA:List (List UInt8):=[[72,69,76,79,32,120],
 [69,72,76,79,32,121,46,122],
 [65,85,84,72,32,80,76,65,73,78,32,65,72,85,65,100,119,61,61],
 [65,85,84,72,32,80,76,65,73,78,32,100,81,66,49,65,72,99,61],
 [65,85,84,72,32,80,76,65,73,78,32,65,72,85,65,101,65,61,61],
 [65,85,84,72,32,80,76,65,73,78,32,65,72,89,65,98,71,57,117,90,121,66,51,98,51,74,107],
 [65,85,84,72,32,80,76,65,73,78,32,100,103,66,49,65,72,99,61],
 [78,79,79,80],
 [82,83,69,84],
 [81,85,73,84],
 [87,72,65,84],
 [72,69,76,79],
 [77,65,73,76,32,70,82,79,77,58,60,97,64,98,62,32,83,73,90,69,61,50,48,48,48],
 [77,65,73,76,32,70,82,79,77,58,60,62],
 [109,97,105,108,32,102,114,111,109,58,60,109,101,64,72,69,82,69,46,111,114,103,62],
 [77,65,73,76,32,70,82,79,77,58,60,120,64,99,46,100,62,32,83,73,90,69,61,53],
 [82,67,80,84,32,84,79,58,60,106,64,97,46,111,114,103,62],
 [82,67,80,84,32,84,79,58,60,107,64,65,46,79,82,71,62],
 [82,67,80,84,32,84,79,58,60,108,64,98,46,110,101,116,62],
 [82,67,80,84,32,84,79,58,60,109,64,99,46,111,114,103,62],
 [82,67,80,84,32,84,79,58,60,110,64,100,46,111,114,103,62],
 [114,99,112,116,32,116,111,58,60,106,64,65,46,111,114,103,62],
 [68,65,84,65],
 [68,65,84,65],
 [104,101,108,108,111],
 [46,46,116,119,111,32,100,111,116,115],
 [],
 [46],
 [46],
 [97,32,108,105,110,101,32,111,102,32,97,32,98,111,100,121,32,116,104,97,116,32,105,115,32,108,111,110,103,101,114,32,116,104,97,110,32,109,111,115,116],
 [72,69,76,79,32,120,13,10,77,65,73,76,32,70,82,79,77,58,60,109,101,64,104,101,114,101,46,111,114,103,62,13,10,82,67,80,84,32,84,79,58,60,106,64,97,46,111,114,103,62,13,10,68,65,84,65,13,10,104,101,108,108,111,13,10,46,46,13,10,46],
 [72,69,76,79,32,120,13,10,65,85,84,72,32,80,76,65,73,78,32,65,72,85,65,100,119,61,61,13,10,77,65,73,76,32,70,82,79,77,58,60,109,101,64,104,101,114,101,46,111,114,103,62,13,10,82,67,80,84,32,84,79,58,60,109,64,99,46,111,114,103,62,13,10,82,67,80,84,32,84,79,58,60,110,64,100,46,111,114,103,62,13,10,82,67,80,84,32,84,79,58,60,106,64,97,46,111,114,103,62,13,10,68,65,84,65,13,10,116,111,32,116,104,114,101,101,13,10,46]]
def LL:List (List UInt8):=[[72,69,76,79,32,120],
 [69,72,76,79,32,121,46,122],
 [65,85,84,72,32,80,76,65,73,78,32,65,72,85,65,100,119,61,61],
 [65,85,84,72,32,80,76,65,73,78,32,100,81,66,49,65,72,99,61],
 [65,85,84,72,32,80,76,65,73,78,32,65,72,85,65,101,65,61,61],
 [65,85,84,72,32,80,76,65,73,78,32,65,72,89,65,98,71,57,117,90,121,66,51,98,51,74,107],
 [65,85,84,72,32,80,76,65,73,78,32,100,103,66,49,65,72,99,61],
 [78,79,79,80],
 [82,83,69,84],
 [81,85,73,84],
 [87,72,65,84],
 [72,69,76,79],
 [77,65,73,76,32,70,82,79,77,58,60,97,64,98,62,32,83,73,90,69,61,50,48,48,48],
 [77,65,73,76,32,70,82,79,77,58,60,62],
 [109,97,105,108,32,102,114,111,109,58,60,109,101,64,72,69,82,69,46,111,114,103,62],
 [77,65,73,76,32,70,82,79,77,58,60,120,64,99,46,100,62,32,83,73,90,69,61,53],
 [82,67,80,84,32,84,79,58,60,106,64,97,46,111,114,103,62],
 [82,67,80,84,32,84,79,58,60,107,64,65,46,79,82,71,62],
 [82,67,80,84,32,84,79,58,60,108,64,98,46,110,101,116,62],
 [82,67,80,84,32,84,79,58,60,109,64,99,46,111,114,103,62],
 [82,67,80,84,32,84,79,58,60,110,64,100,46,111,114,103,62],
 [114,99,112,116,32,116,111,58,60,106,64,65,46,111,114,103,62],
 [68,65,84,65],
 [104,101,108,108,111],
 [46,46,116,119,111,32,100,111,116,115],
 [],
 [46],
 [97,32,108,105,110,101,32,111,102,32,97,32,98,111,100,121,32,116,104,97,116,32,105,115,32,108,111,110,103,101,114,32,116,104,97,110,32,109,111,115,116],
 [77,65,73,76,32,70,82,79,77,58,60,109,101,64,104,101,114,101,46,111,114,103,62],
 [46,46],
 [116,111,32,116,104,114,101,101]]
def mg:List UInt8:=[65,85,84,72]
def gZ:List UInt8:=[82,67,80,84]
def fT:List UInt8:=[81,85,73,84]
def j3 (l:List UInt8):Bool:=bu l [82,83,69,84] || bu l [77,65,73,76] || bu l [72,69,76,79] || bu l [69,72,76,79]
def fV (l:List UInt8):List UInt8:=(fq ((l.take (l.length - 1)).drop 9)).1++[64]++(fq ((l.take (l.length - 1)).drop 9)).2.1
def Ke:List UInt8:=[97,46,111,114,103]
def Ki:List UInt8:=[98,46,110,101,116]
def na:List ByteArray:=[bs [97,46,111,114,103],bs [66,46,110,101,116]]
def xJ (t:List UInt8):Bool:=ET t == Ke || ET t == Ki
def zK (l:List UInt8):Bool:=decide (l.length≤100) && l.all fun b=>decide (32≤b.toNat) && decide (b.toNat≤126)
def JI (l:List UInt8):Bool:=
 zK l && (bu l fT == ((bn l false).verb == 2)) &&
 (!((bn l false).verb == 4 || (bn l false).verb == 6 || (bn l false).verb == 7 || (bn l false).verb == 9) || j3 l) &&
 (!j3 l || ((bn l false).verb == 4 || (bn l false).verb == 6 || (bn l false).verb == 7 || (bn l false).verb == 9 || (bn l false).verb == 1)) &&
 (bu l mg == ((bn l false).verb == 8)) && (bu l gZ == ((bn l false).verb == 10)) &&
 (!((bn l false).verb == 10) || (decide (10≤l.length) && fV l == (bn l false).name && xJ (bn l false).name == ((fq (bn l false).name).2.2 && na.any (my (bs (fq (bn l false).name).2.1))))) &&
 decide ((bn l false).verb≤10)
theorem J9:LL.all JI=true:=by kernel_rfl
def mh:Nat→List UInt8→Bool
 | 0,_=>false
 | n+1,l=>LL.contains (gf l).1 && (decide ((gf l).2=[]) || mh n (gf l).2)
theorem Hn:kA.all (mh 9)=true:=by kernel_rfl
theorem AZ:kA.all (fun l=>decide (l.length≤200))=true:=by kernel_rfl
structure tr (l:List UInt8):Prop where
 ok:zK l=true
 quit:bu l fT=((bn l false).verb == 2)
 over:((bn l false).verb=4∨(bn l false).verb=6∨(bn l false).verb=7∨(bn l false).verb=9)→j3 l=true
 overs:j3 l=true→((bn l false).verb=4∨(bn l false).verb=6∨(bn l false).verb=7∨(bn l false).verb=9∨(bn l false).verb=1)
 auth:bu l mg=((bn l false).verb == 8)
 rcpt:bu l gZ=((bn l false).verb == 10)
 addr:(bn l false).verb=10→10≤l.length∧fV l=(bn l false).name∧xJ (bn l false).name=((fq (bn l false).name).2.2 && na.any (my (bs (fq (bn l false).name).2.1)))
 most:(bn l false).verb≤10
theorem pZ {l:List UInt8} (h:l∈LL):tr l:=by
 have:=List.all_eq_true.1 J9 l h;unfold JI at this;simp only [Bool.and_eq_true,Bool.or_eq_true,Bool.not_eq_true',beq_iff_eq,decide_eq_true_eq] at this;obtain ⟨⟨⟨⟨⟨⟨⟨d,f⟩,b⟩,c⟩,g⟩,i⟩,a⟩,j⟩:=this;refine ⟨d,f,fun e=>?_,fun e=>?_,g,i,fun e=>?_,j⟩
 ·rcases b with b | b
  ·rw [Bool.or_eq_false_iff,Bool.or_eq_false_iff,Bool.or_eq_false_iff] at b;simp only [beq_eq_false_iff_ne] at b;omega
  ·exact b
 ·rcases c with c | c
  ·rw [e] at c;cases c
  ·omega
 ·rcases a with a | a
  ·rw [beq_eq_false_iff_ne] at a;exact absurd e a
  ·exact ⟨a.1.1,a.1.2,a.2⟩
theorem FY {p:List UInt8} {b:UInt8} (a:b.toNat≠10) (e:p.length < 102):j4 p b=(p++[b],none):=by
 have c:pK (p++[b])=false:=by
  unfold pK Lib.hasSuffix;rw [←Bool.not_eq_true];intro h;have h:=List.isSuffixOf_iff_suffix.1 h;obtain ⟨t,d⟩:=h;have:=congrArg List.getLast? d;rw [show t++[13,10]=(t++[13])++[10] by simp,List.getLast?_concat,List.getLast?_concat] at this
  injection this with this;exact a (by rw [←this];rfl)
 unfold j4;rw [c,if_neg (by decide)];unfold lk;rw [if_neg (by rw [List.length_append,List.length_singleton];omega)]
theorem IE {p:List UInt8}:j4 (p++[13]) 10=([],some (jw p)):=by
 have a:pK (p++[13]++[10])=true:=by
  unfold pK Lib.hasSuffix;exact List.isSuffixOf_iff_suffix.2 ⟨p,by simp⟩
 unfold j4;rw [a,if_pos rfl]
 congr 3
 rw [show p++[13]++[10]=p++[13,10] by simp,List.length_append,show ([13,10]:List UInt8).length=2 from rfl,Nat.add_sub_cancel,List.take_left]
theorem xI (c:bX) (S:aa) (a d:List UInt8):∀(l:List UInt8) (s:bG),s.over=false→(∀b∈l,b.toNat≠10)→s.wait.length+l.length≤101→cL c (s,S,a,d) l=({s with wait:=s.wait++l},S,a,d)
 | [],s,_,_,_=>by
  show (s,S,a,d)=_;rw [List.append_nil]
 | b::r,s,ho,hb,hl=>by
  rw [List.length_cons] at hl;show cL c (gQ c (s,S,a,d) b) r=_
  have e:gQ c (s,S,a,d) b=({s with wait:=s.wait++[b]},S,a,d):=by
   unfold gQ;simp only [ho,Bool.false_eq_true,if_false];rw [FY (hb b (List.mem_cons_self ..)) (by omega)]
  rw [e,xI c S a d r {s with wait:=s.wait++[b]} ho (fun x f=>hb x (List.mem_cons_of_mem _ f)) (by show (s.wait++[b]).length+r.length≤101;rw [List.length_append,List.length_singleton];omega)];show ({s with wait:=s.wait++[b]++r},S,a,d)=_;rw [List.append_assoc];rfl
theorem uQ {l:List UInt8} (h:zK l=true):l.length≤100∧(∀b∈l,b.toNat≠10∧b.toNat≠13)∧jw l=(l,false):=by
 unfold zK at h;rw [Bool.and_eq_true,decide_eq_true_eq,List.all_eq_true] at h;have a:∀b∈l,32≤b.toNat∧b.toNat≤126:=fun b a=>by have:=h.2 b a;rwa [Bool.and_eq_true,decide_eq_true_eq,decide_eq_true_eq] at this
 refine ⟨h.1,fun b x=>by have:=a b x;omega,?_⟩
 unfold jw;rw [if_neg];rw [Bool.or_eq_true,decide_eq_true_eq,List.any_eq_true];rintro (e | ⟨b,d,c⟩)
 ·omega
 ·have:=a b d;unfold tD at c;simp only [Bool.or_eq_true,decide_eq_true_eq] at c;omega
theorem lQ (c:bX) (s:bG) (S:aa) (a d:List UInt8) {l:List UInt8} (h:zK l=true) (f:s.over=false) (g:s.wait=[]):cL c (s,S,a,d) (l++[13,10])=((aO c s S a l false).1,(aO c s S a l false).2.1,(aO c s S a l false).2.2.1,d++(aO c s S a l false).2.2.2.flatten):=by
 obtain ⟨o,m,n⟩:=uQ h;have j:l++[13,10]=(l++[13])++[10]:=by simp
 unfold cL;rw [j,List.foldl_append]
 have i:=xI c S a d (l++[13]) s f (fun b e=>by
  rcases List.mem_append.1 e with e | e
  ·exact (m b e).1
  ·rw [List.mem_singleton.1 e];decide) (by rw [g,List.length_append,List.length_nil,List.length_singleton];omega)
 unfold cL at i;rw [i,g,List.nil_append];show gQ c ({s with wait:=l++[13]},S,a,d) 10=_;unfold gQ;simp only [f,Bool.false_eq_true,if_false];rw [IE,n]
 have k:(bG.mk s.nets s.greeted s.known false [] s.tx)=s:=by
  cases s
  cases f
  cases g
  rfl
 simp only [k]
theorem E6 (c:bX) (s:bG) (S:aa) (a:List UInt8) {l:List UInt8} (h:zK l=true) (b:s.over=false) (d:s.wait=[]):cL c (s,S,a,[]) (l++[13,10])=((aO c s S a l false).1,(aO c s S a l false).2.1,(aO c s S a l false).2.2.1,(aO c s S a l false).2.2.2.flatten):=lQ c s S a [] h b d
theorem gI (c:bX) (s:bG) (S:aa) (a b:List UInt8) {l:List UInt8} (h:zK l=true) (d:s.over=false) (e:s.wait=[]) (r:List UInt8):cL c (s,S,a,b) (l++[13,10]++r)=cL c ((aO c s S a l false).1,(aO c s S a l false).2.1,(aO c s S a l false).2.2.1,b++(aO c s S a l false).2.2.2.flatten) r:=by
 rw [←lQ c s S a b h d e];unfold cL;rw [List.foldl_append]
open Go.RowKit Go.Maps Go.Shelf
theorem FT (m:Nat):AnyZI.SortsIn Tryz.prog Tryz.sortedA_ren Fence.wide m:=
 ⟨fun c e a g W f b d=>callsIn_wide.2 (AnyM.slices_Sort_int Tryz.sortA c e a g W f b d),
 fun p a W=>callsIn_wide.2 (AnyM.slices_Sort_int_none Tryz.sortA p a W)⟩
theorem AU (a:Option Nat) (W:World):Calls Tryz.prog 59 #[.map a] W fun e b=>e= .returned (.func (.func 95) #[] #[.pointer (some ⟨W.heap.size,0,none⟩)])∧b=W.alloc (.cells #[.map a] 115):=
 (callsIn_wide (n:=5)).1 (AnyZI.keys_in Tryz.keysA Fence.wide 5 trivial rfl a W)
theorem nF (w:World) (d c:Nat) (q:Nat→Nat) (l:List Nat) (h:gh w d q l c) (x:∀i∈l,i < c) (z:l.Pairwise (·< ·)) (C:c≤1048576) (A:l.length≤c):
  Calls Tryz.prog 58 #[.func (.func 95) #[] #[.pointer (some ⟨w.heap.size,0,none⟩)]] (w.alloc (.cells #[.map (some d)] 115)) fun e r=>∃v,e= .returned v∧r.ownsRow (w.heap.size+1) 3 1 v l.length ((iK l).map fun (i:Int)=> .int .i64 i)∧Below (w.heap.size+1) (w.alloc (.cells #[.map (some d)] 115)) r:=by
 have E:l.Nodup:=z.imp fun {a b} hab=>by omega
 have p:d < w.heap.size:=ah h
 have j:(w.alloc (.cells #[.map (some d)] 115)).ownsMap Tryz.prog 3 kL d c (.map (((cO q l).toList.map (WideElems.rg Tryz.prog 3 kL)).foldr DataW.insert [])):=
  ⟨cO q l,c,(Below.heap_alloc _ _ d p).trans h,GJ Tryz.underlying3 x E C A,by simp [cO];exact A,rfl⟩
 have o:Maps.size (DataW.map (((cO q l).toList.map (WideElems.rg Tryz.prog 3 kL)).foldr DataW.insert []))=l.length:=by
  show (List.foldr DataW.insert [] _).length=_;rw [length_sorted,List.length_map,cT,List.length_map]
 have m:=AnyZI.keys_gives (ρ:=Tryz.keysA_ren) {Tryz.keysA with} Fence.wide 2 trivial rfl (by omega) w.heap.size d c _ (w.alloc (.cells #[.map (some d)] 115)) (by simp) (by simp) j;have s:=AnyZI.sorted_in Tryz.sortedA Fence.wide 5 trivial trivial trivial trivial rfl (by omega) (FT _) (enters_of Tryz.func94 (by kernel_rfl) rfl) 95 #[.pointer (some ⟨w.heap.size,0,none⟩)] trivial (enters_of Tryz.func95 (by kernel_rfl) rfl) _ _ (by rw [o];unfold maxLen;omega) (by rw [o];omega) _ m;change CallsIn _ _ Tryz.prog 58 _ _ _ at s;refine ((callsIn_wide (n:=5)).1 s).mono ?_;rintro e r ⟨v,F,rfl,B,f,y,u⟩;have k:=B.trans (EU (q:=q) Tryz.underlying3 (fun i D=>by have:=x i D;omega));have g:F.length=l.length:=by rw [k.length_eq];simp [iK]
 have t:(w.alloc (.cells #[.map (some d)] 115)).heap.size=w.heap.size+1:=by simp
 rw [t,g,AV z k] at f;rw [t] at u;exact ⟨v,rfl,f,u⟩
end Go.Proofs.YtofpegbpgkkgkaaGreatDoor
