import Derived.Test.YtofpegbpgkkgkaaGreatDoorS15
import Derived.Test.YtofpegbpgkkgkaaGreatDoorS18
import Derived.Test.YtofpegbpgkkgkaaGreatDoorS17
import Derived.Test.YtofpegbpgkkgkaaGreatDoorS12
namespace Go.Proofs.YtofpegbpgkkgkaaGreatDoor
set_option maxHeartbeats 8000000
set_option maxRecDepth 1000000
open Go.RowKit
def yX (k:Nat):Prop:=k=0∨k=6∨k=2∨k=3
structure iR (w:World):Prop where
 len:∃n,w.cell? ⟨0,0,none⟩=some (.int .i64 n)
 pow:tw w
 utf:Lib.Utf8Tabs 2 3 w
theorem iR.lt {w:World} (h:iR w) {k:Nat} (a:yX k):k < w.heap.size:=by
 obtain ⟨n,b⟩:=h.len
 rcases a with rfl | rfl | rfl | rfl
 ·exact aC b
 ·exact h.pow.lt
 ·exact aC (h.utf.1 0 (by decide))
 ·exact aC (h.utf.2 0 (by decide)).1
theorem iR.chg {B:Nat→Prop} {w w':World} (h:iR w) (b:aH B w w') (a:∀k,yX k→¬B k):iR w':=by
 obtain ⟨n,d⟩:=h.len;have e:=h.lt (k:=0) (.inl rfl);refine ⟨⟨n,?_⟩,h.pow.chg b (a _ (.inr (.inl rfl))),B7 h.utf b (a _ (.inr (.inr (.inl rfl)))) (a _ (.inr (.inr (.inr rfl))))⟩;rw [←d];exact World.cell?_of_block (b.block _ e (a _ (.inl rfl)))
theorem iR.below {w w':World} (h:iR w) (a:Below w.heap.size w w'):iR w':=h.chg (aH.below a:aH (fun _=>False) w w') (fun _ _ e=>e)
structure dR [Kn] (E:Nat→Prop) (pp pb mb:Nat) (c:bX) (w:World) (q:Nat→Nat) (vr:Value) (S:aa) (recs:List UInt8) (vs:Value) (ps:List Value):Prop where
 set:∃vD vN vU vW,ko w pp c vD vN vU vW∧∀k,(vD.ownBlock=some k∨vN.ownBlock=some k∨vU.ownBlock=some k∨vW.ownBlock=some k)→E k∧k≠pp
 glo:iR w
 egl:∀k,yX k→E k
 gpp:¬yX pp
 epp:E pp
 lt:∀k,E k→k < w.heap.size
 blk:∃C:Array Value,w.heap[pp]? =some (.cells C 88 (0,0))∧C.size=12∧C[9]? =some (.pointer (some ⟨pb,0,none⟩))∧C[10]? =some vs∧C[11]? =some Kn.tk
 bag:fv w pb mb q vr S recs
 row:w.ownsRow 0 91 1 vs ps.length ps
 eb:∀k,E k→¬an w pb mb q vr S k
 sd:∀g,vs.ownBlock=some g→¬E g∧¬an w pb mb q vr S g
section
variable {E B:Nat→Prop} {pp pb mb:Nat} {c:bX} {w w':World} {q:Nat→Nat} {vr:Value} {S:aa} {recs:List UInt8} {vs:Value} {ps:List Value}
theorem dR.env [Kn] (h:dR E pp pb mb c w q vr S recs vs ps):gg E w pp c:=by
 obtain ⟨d,f,g,i,a,b⟩:=h.set;exact ⟨⟨d,f,g,i,a,fun k e=>(b k e).1⟩,h.epp,h.glo.len,h.egl _ (.inl rfl),h.glo.pow,h.egl _ (.inr (.inl rfl)),h.glo.utf,h.egl _ (.inr (.inr (.inl rfl))),h.egl _ (.inr (.inr (.inr rfl))),h.lt⟩
theorem ko.chg {f h i j:Value} (a:ko w pp c f h i j) (b:aH B w w') (d:∀k,(f.ownBlock=some k∨h.ownBlock=some k∨i.ownBlock=some k∨j.ownBlock=some k)→¬B k) (n:¬B pp):ko w' pp c f h i j:=by
 obtain ⟨D,l,m⟩:=a.blk;exact ⟨⟨D,b.some_ l n,m⟩,⟨a.rows.1.chg b (fun g e=>d g (.inl e)),a.rows.2.1.chg b (fun g e=>d g (.inr (.inl e))),a.rows.2.2.1.chg b (fun g e=>d g (.inr (.inr (.inl e)))),a.rows.2.2.2.chg b (fun g e=>d g (.inr (.inr (.inr e))))⟩,a.may⟩
theorem dR.chg [Kn] (h:dR E pp pb mb c w q vr S recs vs ps) (a:aH B w w') (b:∀k,E k→¬B k) (n:∀k,an w pb mb q vr S k→¬B k) (o:∀k,vs.ownBlock=some k→¬B k):dR E pp pb mb c w' q vr S recs vs ps∧∀k,an w' pb mb q vr S k→an w pb mb q vr S k:=by
 obtain ⟨p,r,s,t,j,f⟩:=h.set;obtain ⟨C,l,m⟩:=h.blk;obtain ⟨i,d⟩:=h.bag.chg a n;exact ⟨⟨⟨p,r,s,t,j.chg a (fun k e=>b k (f k e).1) (b pp h.epp),f⟩,h.glo.chg a (fun k e=>b k (h.egl k e)),h.egl,h.gpp,h.epp,fun k e=>Nat.lt_of_lt_of_le (h.lt k e) a.size,⟨C,a.some_ l (b pp h.epp),m⟩,i,bC h.row a o,fun k e x=>h.eb k e (d k x),fun g e=>⟨(h.sd g e).1,fun x=>(h.sd g e).2 (d g x)⟩⟩,d⟩
theorem dR.below [Kn] (h:dR E pp pb mb c w q vr S recs vs ps) (a:Below w.heap.size w w'):dR E pp pb mb c w' q vr S recs vs ps∧∀k,an w' pb mb q vr S k→an w pb mb q vr S k:=
 h.chg (aH.below a:aH (fun _=>False) w w') (fun _ _ e=>e) (fun _ _ e=>e) (fun _ _ e=>e)
theorem dR.cell9 [Kn] (h:dR E pp pb mb c w q vr S recs vs ps):w.cell? ⟨pp,9,none⟩=some (.pointer (some ⟨pb,0,none⟩)):=by
 obtain ⟨C,a,_,b,_⟩:=h.blk;rw [Lib.cell_of_heap a];exact b
theorem dR.cell10 [Kn] (h:dR E pp pb mb c w q vr S recs vs ps):w.cell? ⟨pp,10,none⟩=some vs:=by
 obtain ⟨C,a,_,_,b,_⟩:=h.blk;rw [Lib.cell_of_heap a];exact b
theorem dR.cell11 [Kn] (h:dR E pp pb mb c w q vr S recs vs ps):w.cell? ⟨pp,11,none⟩=some Kn.tk:=by
 obtain ⟨C,a,_,_,_,b⟩:=h.blk;rw [Lib.cell_of_heap a];exact b
theorem dR.froz [Kn] (h:dR E pp pb mb c w q vr S recs vs ps) (j:Nat):w.frozen? ⟨pp,j,none⟩=false:=by
 obtain ⟨C,a,_⟩:=h.blk;exact Lib.frozen_of_heap a j
theorem dR.slt [Kn] (h:dR E pp pb mb c w q vr S recs vs ps) {g:Nat} (a:vs.ownBlock=some g):g < w.heap.size:=(kD h.row a).2
end
theorem Aa [Kn] {pb mb:Nat} {q:Nat→Nat} {vr:Value} {S:aa} {recs:List UInt8} {w:World} (h:fv w pb mb q vr S recs):
  Calls Tryz.prog 41 #[.pointer (some ⟨pb,0,none⟩)] w fun e w'=>e= .returned (.string (bs recs))∧w=w':=by
 have b:w.cell? ⟨pb,0,none⟩=some vr:=by rw [Lib.cell_of_heap h.inn.bag];rfl
 have a:=h.row.string;clear h;go_enter Tryz.func41,Tryz.ntmps41;go_wp2_with fail
 go_ret;exact ⟨rfl,rfl⟩
theorem AR [Kn] {E:Nat→Prop} {pp pb mb:Nat} {c:bX} {w:World} {q:Nat→Nat} {vr:Value} {S:aa} {recs:List UInt8} {vs:Value} {ps:List Value} (h:dR E pp pb mb c w q vr S recs vs ps):
  Calls Tryz.prog 17 #[.pointer (some ⟨pp,0,none⟩)] w fun e w'=>e= .returned (.tuple #[.string (bs recs),.int .i64 0])∧w=w':=by
 have b:=h.cell9;have a:=Lib.hid (Aa h.bag);clear h;go_enter Tryz.func17,Tryz.ntmps17;go_wp2_with fail
 refine a.out.mono ?_;rintro e w' ⟨rfl,rfl⟩;go_wp2_with fail
 go_ret2
 exact ⟨rfl,rfl⟩
theorem yd [Kn] {E:Nat→Prop} {pp pb mb:Nat} {c:bX} {w:World} {q:Nat→Nat} {vr:Value} {S:aa} {recs:List UInt8} {vs:Value} {ps:List Value} (h:dR E pp pb mb c w q vr S recs vs ps) (b:S.Ok) (n:S.items.length≤1048576):
  Calls Tryz.prog 10 #[.pointer (some ⟨pp,0,none⟩)] w fun e w'=>∃v a,e= .returned (.tuple #[v,.int .i64 0])∧iT w.heap.size w' v a∧a.map (·.1)=gA S.items∧Below w.heap.size w w':=by
 have m:=h.cell9;have k:=Lib.hid (yC 0 pb mb q vr _ w h.bag.inn b (by omega));clear h b;go_enter Tryz.func10,Tryz.ntmps10;go_wp2_with fail
 refine k.out.mono ?_;rintro e w' ⟨v,a,rfl,g,f,d⟩;have l:=Lib.hid g;have j:=Lib.hid f;have i:=Lib.hid d;clear g f d;go_wp2_with fail
 go_ret2
 exact ⟨v,a,rfl,l.out,j.out,i.out⟩
structure gY [Kn] (E:Nat→Prop) (pp pb mb:Nat) (c:bX) (w:World) (q:Nat→Nat) (vr:Value) (S:aa) (recs:List UInt8) (vs:Value) (ps:List Value) (sb ch:Nat) (A:Nat→Prop) (vw:Value) (s:bG):Prop where
 post:dR E pp pb mb c w q vr S recs vs ps
 ses:cI w A pp pb sb ch vw [] s
 wrow:lF w vw s.wait
 ea:∀k,E k→¬A k
 ab:∀k,A k→¬an w pb mb q vr S k
 wd:∀g,vw.ownBlock=some g→¬E g∧¬A g∧¬an w pb mb q vr S g
 sa:∀g,vs.ownBlock=some g→¬A g∧vw.ownBlock≠some g
def kJ (w:World) (pb mb:Nat) (A:Nat→Prop) (q:Nat→Nat) (vr:Value) (S:aa) (vw vs:Value) (k:Nat):Prop:=wY w pb mb A q vr S vw k∨vs.ownBlock=some k
section
variable {E B:Nat→Prop} {pp pb mb:Nat} {c:bX} {w w':World} {q:Nat→Nat} {vr:Value} {S S':aa} {recs recs':List UInt8} {vs:Value} {ps:List Value} {sb ch:Nat} {A:Nat→Prop} {vw:Value} {s s':bG}
theorem gY.rest [Kn] (h:gY E pp pb mb c w q vr S recs vs ps sb ch A vw s):zS E pp pb mb sb ch c w A q vr S recs vw s:=⟨h.post.env,h.ses,h.wrow,h.post.bag,h.ea,h.post.eb,h.ab,h.wd⟩
theorem gY.wlt [Kn] (h:gY E pp pb mb c w q vr S recs vs ps sb ch A vw s) {g:Nat} (a:vw.ownBlock=some g):g < w.heap.size:=(kD h.wrow a).2
theorem gY.olt [Kn] (h:gY E pp pb mb c w q vr S recs vs ps sb ch A vw s) {k:Nat} (a:kJ w pb mb A q vr S vw vs k):k < w.heap.size:=by
 rcases a with (e | e | e) | e
 ·exact h.ses.lt k e
 ·exact an.lt h.post.bag e
 ·exact h.wlt e
 ·exact h.post.slt e
theorem gY.chg [Kn] (h:gY E pp pb mb c w q vr S recs vs ps sb ch A vw s) (b:aH B w w') (f:∀k,E k→¬B k) (a:∀k,kJ w pb mb A q vr S vw vs k→¬B k):gY E pp pb mb c w' q vr S recs vs ps sb ch A vw s∧∀k,kJ w' pb mb A q vr S vw vs k→kJ w pb mb A q vr S vw vs k:=by
 obtain ⟨i,d⟩:=h.post.chg b f (fun k e=>a k (.inl (.inr (.inl e)))) (fun k e=>a k (.inr e));refine ⟨⟨i,h.ses.chg b (fun k e=>a k (.inl (.inl e))),bC h.wrow b (fun g e=>a g (.inl (.inr (.inr e)))),h.ea,fun k e x=>h.ab k e (d k x),fun g e=>⟨(h.wd g e).1,(h.wd g e).2.1,fun x=>(h.wd g e).2.2 (d g x)⟩,h.sa⟩,fun k e=>?_⟩
 rcases e with (e | e | e) | e
 ·exact .inl (.inl e)
 ·exact .inl (.inr (.inl (d k e)))
 ·exact .inl (.inr (.inr e))
 ·exact .inr e
theorem gY.below [Kn] (h:gY E pp pb mb c w q vr S recs vs ps sb ch A vw s) (a:Below w.heap.size w w'):gY E pp pb mb c w' q vr S recs vs ps sb ch A vw s∧∀k,kJ w' pb mb A q vr S vw vs k→kJ w pb mb A q vr S vw vs k:=
 h.chg (aH.below a:aH (fun _=>False) w w') (fun _ _ e=>e) (fun _ _ e=>e)
theorem gY.heard [Kn] (h:gY E pp pb mb c w q vr S recs vs ps sb ch A vw s) (u:tq E A pp pb mb sb ch c q vr S vw w s' S' recs' w'):∃i j a b,gY E pp pb mb c w' j a S' recs' vs ps sb ch i b s'∧(∀k,kJ w' pb mb i j a S' b vs k→kJ w pb mb A q vr S vw vs k∨w.heap.size≤k)∧aH (kJ w pb mb A q vr S vw vs) w w':=by
 obtain ⟨i,j,a,b,d,o,f⟩:=u;obtain ⟨z,D,F,G,v,p⟩:=h.post.set;obtain ⟨C,r,t⟩:=h.post.blk
 have l:∀k,E k→¬wY w pb mb A q vr S vw k:=fun k e x=>by
  rcases x with x | x | x
  ·exact h.ea k e x
  ·exact h.post.eb k e x
  ·exact (h.wd k x).1 e
 have n:∀g,vs.ownBlock=some g→¬wY w pb mb A q vr S vw g:=fun g e x=>by
  rcases x with x | x | x
  ·exact (h.sa g e).1 x
  ·exact (h.post.sd g e).2 x
  ·exact (h.sa g e).2 x
 have m:∀g,vs.ownBlock=some g→¬wY w' pb mb i j a S' b g:=fun g e x=>(o g x).elim (n g e) (fun y=>by have:=h.post.slt e;omega);refine ⟨i,j,a,b,⟨⟨⟨z,D,F,G,v.chg f (fun k e=>l k (p k e).1) (l pp h.post.epp),p⟩,h.post.glo.chg f (fun k e=>l k (h.post.egl k e)),h.post.egl,h.post.gpp,h.post.epp,fun k e=>Nat.lt_of_lt_of_le (h.post.lt k e) f.size,⟨C,f.some_ r (l pp h.post.epp),t⟩,d.bag,bC h.post.row f n,d.eb,fun g e=>⟨(h.post.sd g e).1,fun x=>m g e (.inr (.inl x))⟩⟩,d.ses,d.row,d.ea,d.ab,d.wd,fun g e=>⟨fun x=>m g e (.inl x),fun x=>m g e (.inr (.inr x))⟩⟩,fun k e=>?_,f.mono (fun _ _ e=> .inl e)⟩
 rcases e with e | e
 ·exact (o k e).imp .inl id
 ·exact .inl (.inr e)
theorem dR.at [Kn] (h:dR E pp pb mb c w q vr S recs vs ps) {n:Nat} (j:n < ps.length):∃g b a,vs= .slice (some ⟨g,0,none⟩) ps.length b∧w.heap[g]? =some (.cells a 91 (0,0))∧a[n]? =some ps[n]:=by
 rcases h.row.2 with ⟨_,k⟩ | ⟨g,f,a,e,_,i,_,_,_,d⟩
 ·omega
 ·refine ⟨g,f,a,e,i,?_⟩;rw [←Array.getElem?_toList,←List.getElem?_take_of_lt (show n < ps.length * 1 by omega),d,List.getElem?_eq_getElem j]
theorem Ju {w:World} {g a n:Nat} {x:Value} {ps:List Value} (h:w.ownsRow 0 91 1 (.slice (some ⟨g,0,none⟩) ps.length a) ps.length ps) (_:n < ps.length):(w.setCell ⟨g,n,none⟩ x).ownsRow 0 91 1 (.slice (some ⟨g,0,none⟩) ps.length a) ps.length (ps.set n x):=by
 refine ⟨by simp,?_⟩
 rcases h.2 with ⟨e,_⟩ | ⟨o,m,b,e,f,i,j,k,l,d⟩
 ·cases e
 ·injection e with e1 _ e3;injection e1 with e1;injection e1 with e1;subst e1 e3;refine .inr ⟨g,a,b.setIfInBounds n x,rfl,f,heap_setCell_same w g n _ _ x i,j,k,by simp [l],?_⟩
  rw [Array.toList_setIfInBounds,List.take_set,d]
theorem dR.put [Kn] (h:dR E pp pb mb c w q vr S recs vs ps) {g f n:Nat} {x:Value} (j:vs= .slice (some ⟨g,0,none⟩) ps.length f) (t:n < ps.length):dR E pp pb mb c (w.setCell ⟨g,n,none⟩ x) q vr S recs vs (ps.set n x)∧(∀k,an (w.setCell ⟨g,n,none⟩ x) pb mb q vr S k→an w pb mb q vr S k)∧aH (fun k=>k=g) w (w.setCell ⟨g,n,none⟩ x):=by
 have a:aH (fun k=>k=g) w (w.setCell ⟨g,n,none⟩ x):=aH.same ((aL.refl _ _).setCell _);have b:vs.ownBlock=some g:=by rw [j];rfl
 have d:∀k,E k→¬k=g:=fun k e x=>(h.sd g b).1 (by rw [←x];exact e);obtain ⟨y,z,D,F,v,o⟩:=h.set;obtain ⟨C,p,r⟩:=h.blk;obtain ⟨u,l⟩:=h.bag.chg a (fun k e x=>(h.sd g b).2 (by rw [←x];exact e));have m:=h.row;rw [j] at m;have i:=Ju (x:=x) m t;refine ⟨⟨⟨y,z,D,F,v.chg a (fun k e=>d k (o k e).1) (d pp h.epp),o⟩,h.glo.chg a (fun k e=>d k (h.egl k e)),h.egl,h.gpp,h.epp,fun k e=>Nat.lt_of_lt_of_le (h.lt k e) a.size,⟨C,a.some_ p (d pp h.epp),r⟩,u,?_,fun k e x=>h.eb k e (l k x),fun g e=>⟨(h.sd g e).1,fun x=>(h.sd g e).2 (l g x)⟩⟩,l,a⟩;rw [j,List.length_set];exact i
theorem gY.put [Kn] (h:gY E pp pb mb c w q vr S recs vs ps sb ch A vw s) {g b n:Nat} {x:Value} (i:vs= .slice (some ⟨g,0,none⟩) ps.length b) (j:n < ps.length):gY E pp pb mb c (w.setCell ⟨g,n,none⟩ x) q vr S recs vs (ps.set n x) sb ch A vw s∧(∀k,kJ (w.setCell ⟨g,n,none⟩ x) pb mb A q vr S vw vs k→kJ w pb mb A q vr S vw vs k)∧aH (kJ w pb mb A q vr S vw vs) w (w.setCell ⟨g,n,none⟩ x):=by
 obtain ⟨l,f,d⟩:=h.post.put (x:=x) i j;have a:vs.ownBlock=some g:=by rw [i];rfl
 refine ⟨⟨l,h.ses.chg d (fun k e x=>(h.sa g a).1 (by rw [←x];exact e)),bC h.wrow d (fun k e x=>(h.sa g a).2 (by rw [←x];exact e)),h.ea,fun k e x=>h.ab k e (f k x),fun g e=>⟨(h.wd g e).1,(h.wd g e).2.1,fun x=>(h.wd g e).2.2 (f g x)⟩,h.sa⟩,fun k e=>?_,d.mono (fun k _ e=> .inr (by rw [e];exact a))⟩
 rcases e with (e | e | e) | e
 ·exact .inl (.inl e)
 ·exact .inl (.inr (.inl (f k e)))
 ·exact .inl (.inr (.inr e))
 ·exact .inr e
end
section
variable {E B:Nat→Prop} {pp pb mb:Nat} {c:bX} {w w':World} {q:Nat→Nat} {vr:Value} {S S':aa} {recs recs':List UInt8} {vs:Value} {ps:List Value} {sb ch:Nat} {A:Nat→Prop} {vw:Value} {s s':bG}
theorem CP (sb:Nat) (b:Bool) (w:World) (h:w.cell? ⟨sb,7,none⟩=some (.bool b)):Calls Tryz.prog 65 #[.pointer (some ⟨sb,0,none⟩)] w fun e w'=>e= .returned (.bool b)∧w=w':=by
 go_enter Tryz.func65,Tryz.ntmps65;go_wp2_with fail
 go_ret;exact ⟨rfl,rfl⟩
theorem uo [Kn] (h:dR E pp pb mb c w q vr S recs vs ps) (n:Nat) (m:n < ps.length) (_:ps.length≤100) (p:Option Addr) (j:ps[n]= .pointer p):
  Calls Tryz.prog 38 #[.pointer (some ⟨pp,0,none⟩),.int .i64 (n:Int)] w fun e w'=>e= .returned (.bool p.isSome)∧w=w':=by
 have d:=h.cell10;obtain ⟨g,k,l,f,i,b⟩:=h.at m;have o:w.cell? ⟨g,n,none⟩=some (.pointer p):=by rw [Lib.cell_of_heap i,b,j]
 rw [f] at d;have t:(n:Int) < (ps.length:Int):=by omega
 have r:(0:Int)≤(n:Int):=by omega
 clear h f i b j
 cases p with
 | none=>
  go_enter Tryz.func38,Tryz.ntmps38;go_wp2_with fail
  go_ret;exact ⟨rfl,rfl⟩
 | some a=>
  go_enter Tryz.func38,Tryz.ntmps38;go_wp2_with fail
  go_ret;exact ⟨rfl,rfl⟩
theorem GK [Kn] (h:dR E pp pb mb c w q vr S recs vs ps) (n:Nat) (p:n < ps.length) (_:ps.length≤100) (l:ps[n]= .pointer (some ⟨sb,0,none⟩)) (b:Bool) (r:w.cell? ⟨sb,7,none⟩=some (.bool b)) (u:FrameMode):
  CallsD Tryz.prog 39 #[.pointer (some ⟨pp,0,none⟩),.int .i64 (n:Int)] u w fun e u' w'=>u'=u∧e= .returned (.tuple #[])∧∃g a,vs= .slice (some ⟨g,0,none⟩) ps.length a∧w'=if b then w.setCell ⟨g,n,none⟩ (.pointer none) else w:=by
 have m:=Lib.hid (CP sb b w r);have i:=h.cell10;obtain ⟨g,a,o,j,k,d⟩:=h.at p;have t:w.cell? ⟨g,n,none⟩=some (.pointer (some ⟨sb,0,none⟩)):=by rw [Lib.cell_of_heap k,d,l]
 have v:=Lib.frozen_of_heap k n;have x:(n:Int) < (ps.length:Int):=by omega
 rw [j] at i;have f:=Lib.hid j;clear h l j k d;go_enter_d Tryz.func39,Tryz.ntmps39
 go_wp2_with fail
 refine m.out.mono ?_;rintro e w' ⟨rfl,rfl⟩
 cases b with
 | true=>
  go_wp2_with fail
  go_end0
  exact ⟨rfl,g,⟨a,f.out⟩,rfl⟩
 | false=>
  go_wp2_with fail
  go_end0
  exact ⟨rfl,⟨g,a,f.out⟩,rfl⟩
def zR [Kn] (E:Nat→Prop) (pp pb mb:Nat) (c:bX) (w:World) (q:Nat→Nat) (vr:Value) (S:aa) (vs:Value) (ps:List Value) (sb ch:Nat) (A:Nat→Prop) (vw:Value) (n:Nat) (s':bG) (S':aa) (recs':List UInt8) (w':World):Prop:=
 ∃A' q' vr' vw',gY E pp pb mb c w' q' vr' S' recs' vs (if s'.over then ps.set n (.pointer none) else ps) sb ch A' vw' s'∧(∀k,kJ w' pb mb A' q' vr' S' vw' vs k→kJ w pb mb A q vr S vw vs k∨w.heap.size≤k)∧aH (kJ w pb mb A q vr S vw vs) w w'
theorem Bz [Kn] (h:gY E pp pb mb c w q vr S recs vs ps sb ch A vw s) (I:gM c s S recs) (n:Nat) (o:n < ps.length) (J:ps.length≤100) (p:ps[n]= .pointer (some ⟨sb,0,none⟩)) (a:List UInt8) (v:a.length≤1048576):
  Calls Tryz.prog 14 #[.pointer (some ⟨pp,0,none⟩),.int .i64 (n:Int),.string (bs a)] w fun e w'=>e= .returned (.tuple #[.string (bs (cL c (s,S,recs,[]) a).2.2.2),.int .i64 0])∧zR E pp pb mb c w q vr S vs ps sb ch A vw n (cL c (s,S,recs,[]) a).1 (cL c (s,S,recs,[]) a).2.1 (cL c (s,S,recs,[]) a).2.2.1 w':=by
 have O:=Lib.hid (uo h.post n o J _ p);have t:=h.post.cell10;obtain ⟨g,Q,R,D,H,d⟩:=h.post.at o;have Z:w.cell? ⟨g,n,none⟩=some (.pointer (some ⟨sb,0,none⟩)):=by rw [Lib.cell_of_heap H,d,p]
 have h1:(n:Int) < (ps.length:Int):=by omega
 rw [D] at t;have z:=Lib.hid (GV h.rest I a v);have P:=Lib.hid h;have r:=Lib.hid p;obtain ⟨x,F⟩:∃x,cL c (s,S,recs,[]) a=x:=⟨_,rfl⟩;rw [F] at z ⊢;clear h p D H d I F;go_enter_defers Tryz.func14,Tryz.ntmps14
 go_wp2_with fail
 refine O.out.mono ?_;rintro e w' ⟨rfl,rfl⟩;go_wp2_with fail
 refine z.out.mono ?_;rintro e Y ⟨rfl,G⟩;obtain ⟨y,N,l,m,K,L,M⟩:=P.out.heard G;have b:=Lib.hid K;have i:=Lib.hid L;have j:=Lib.hid M;clear K L M G;go_wp2_with fail
 obtain ⟨vx,T,_⟩:=b.out.ses.ex;have u:Y.cell? ⟨sb,7,none⟩=some (.bool x.1.over):=T.cell 7;refine leaves_cons (f:=39) (args:=#[.pointer (some ⟨pp,0,none⟩),.int .i64 (n:Int)]) (by simp) (by simp [go_sem]) ?_;refine (GK b.out.post n o J r.out x.1.over u .returning).mono ?_;rintro e u' w2 ⟨rfl,rfl,g',C,U,rfl⟩;refine ⟨.tuple #[.string (bs x.2.2.2),.int .i64 0],by simp [results,Tryz.results14,go_sem],rfl,?_⟩
 unfold zR
 cases x.1.over with
 | false=>exact ⟨y,N,l,m,b.out,i.out,j.out⟩
 | true=>
  obtain ⟨V,W,X⟩:=b.out.put (x:= .pointer none) U o;exact ⟨y,N,l,m,V,fun k e=>i.out k (W k e),j.out.trans X (fun k hk e=>(i.out k e).elim id (fun e=>by omega))⟩
end
theorem wL:(Tryz.prog.info? 91).map (fun i=>(i.zero,i.size,i.bytes))=some (some (.pointer none),1,8):=by kernel_rfl
section
variable {E B:Nat→Prop} {pp pb mb:Nat} {c:bX} {w w1 w':World} {q:Nat→Nat} {vr:Value} {S S':aa} {recs recs':List UInt8} {vs vs':Value} {ps ps':List Value} {sb ch:Nat} {A:Nat→Prop} {vw:Value} {s s':bG}
theorem dR.conn [Kn] (h:dR E pp pb mb c w q vr S recs vs ps) (u:aH (fun k=>vs.ownBlock=some k) w w1) (i:w1.ownsRow 0 91 1 vs' ps'.length ps') (G:∀g,vs'.ownBlock=some g→vs.ownBlock=some g∨w.heap.size≤g):dR E pp pb mb c (w1.setCell ⟨pp,10,none⟩ vs') q vr S recs vs' ps'∧(∀k,an (w1.setCell ⟨pp,10,none⟩ vs') pb mb q vr S k→an w pb mb q vr S k)∧aH (fun k=>k=pp∨vs.ownBlock=some k) w (w1.setCell ⟨pp,10,none⟩ vs'):=by
 have r:aL pp w1 (w1.setCell ⟨pp,10,none⟩ vs'):=(aL.refl _ _).setCell _;have K:aH (fun k=>k=pp∨vs.ownBlock=some k) w (w1.setCell ⟨pp,10,none⟩ vs'):=(u.mono (fun _ _ e=> .inr e)).trans (aH.same r) (fun _ _ e=> .inl e);have F:=h.lt pp h.epp;have o:vs.ownBlock≠some pp:=fun e=>(h.sd pp e).1 h.epp;obtain ⟨L,M,N,O,d,a⟩:=h.set;obtain ⟨D,I,J⟩:=d.blk;obtain ⟨C,f,v,y,P,z⟩:=h.blk;have l:=u.some_ f o;have t:=heap_setCell_same w1 pp 10 _ _ vs' l;have m:D=C:=by rw [I] at f;injection f with f;injection f
 subst m;have j:∀k,E k→k≠pp→¬(k=pp∨vs.ownBlock=some k):=fun k e n x=>x.elim n (fun x=>(h.sd k x).1 e);obtain ⟨H,p⟩:=h.bag.chg K (fun k e x=>x.elim (fun x=>h.eb pp h.epp (by rw [←x];exact e)) (fun x=>(h.sd k x).2 e));have b:∀g,vs'.ownBlock=some g→¬E g∧¬an w pb mb q vr S g:=fun g e=>(G g e).elim (h.sd g) (fun e=>⟨fun x=>by have:=h.lt g x;omega,fun x=>by have:=an.lt h.bag x;omega⟩);refine ⟨⟨⟨L,M,N,O,⟨⟨_,t,?_⟩,⟨d.rows.1.chg K (fun g e=>j g (a g (.inl e)).1 (a g (.inl e)).2),d.rows.2.1.chg K (fun g e=>j g (a g (.inr (.inl e))).1 (a g (.inr (.inl e))).2),d.rows.2.2.1.chg K (fun g e=>j g (a g (.inr (.inr (.inl e)))).1 (a g (.inr (.inr (.inl e)))).2),d.rows.2.2.2.chg K (fun g e=>j g (a g (.inr (.inr (.inr e)))).1 (a g (.inr (.inr (.inr e)))).2)⟩,d.may⟩,a⟩,h.glo.chg K (fun k e=>j k (h.egl k e) (fun x=>h.gpp (by rw [←x];exact e))),h.egl,h.gpp,h.epp,fun k e=>Nat.lt_of_lt_of_le (h.lt k e) K.size,⟨_,t,by simpa using v,by rw [Array.getElem?_setIfInBounds_ne (by decide)];exact y,by rw [Array.getElem?_setIfInBounds_self_of_lt (by omega)],by rw [Array.getElem?_setIfInBounds_ne (by decide)];exact z⟩,H,bC i (aH.same r) (fun g e x=>(b g e).1 (by rw [x];exact h.epp)),fun k e x=>h.eb k e (p k x),fun g e=>⟨(b g e).1,fun x=>(b g e).2 (p g x)⟩⟩,p,K⟩
 rw [Array.toList_setIfInBounds,List.take_set_of_le (by decide)];exact J
def Gf [Kn] (E:Nat→Prop) (pp pb mb:Nat) (c:bX) (w:World) (q:Nat→Nat) (vr:Value) (S:aa) (recs:List UInt8) (vs:Value) (ps:List Value) (addr:Int) (w':World):Prop:=
 ∃sb ch vs',gY E pp pb mb c w' q vr S recs vs' (ps++[.pointer (some ⟨sb,0,none⟩)]) sb ch (fun k=>k=sb∨k=ch) (.slice none 0 0) (dI c addr)∧w.heap.size≤sb∧w.heap.size≤ch∧(∀g,vs'.ownBlock=some g→vs.ownBlock=some g∨w.heap.size≤g)∧(∀k,an w' pb mb q vr S k→an w pb mb q vr S k)∧aH (fun k=>k=pp∨vs.ownBlock=some k) w w'
theorem An [Kn] (h:dR E pp pb mb c w q vr S recs vs ps) (a:Int) (h0:0≤a) (h1:a≤4294967295) (hl:ps.length < 100):
  Calls Tryz.prog 13 #[.pointer (some ⟨pp,0,none⟩),.int .i64 a] w fun e w'=>e= .returned (.tuple #[.int .i64 (ps.length:Int),.string (bs (mX c)),.int .i64 0])∧Gf E pp pb mb c w q vr S recs vs ps a w':=by
 have Y:=h.cell10;have c9:=h.cell9;have HB:=Lib.hid (EA (pb:=pb) (w:=w.drew) (h.env.below ((Below.refl _ _).drew)) a);have n:=Lib.hid h;obtain ⟨M,N,Z⟩:=aE (aF h.row);rw [Z] at Y;have d:=Lib.hid Z;have n0:¬a < 0:=by omega
 have n1:¬(4294967295:Int) < a:=by omega
 have n2:¬((ps.length:Int)=100):=by omega
 clear h Z;go_enter Tryz.func13,Tryz.ntmps13;go_wp2_with fail
 go_region_law (first
  | (go_simp;go_at_call 37;refine HB.out.mono ?_;rintro e w1 ⟨sb,ch,rfl,hS,m,l,F⟩;have W:=Lib.hid hS;have Q:=Lib.hid F;have X:=Lib.hid m;have R:=Lib.hid l;clear hS m l F;dsimp only))
 all_goals
  have O:Below w.heap.size w w1:=((Below.refl _ w).drew).trans (Q.out.mono (Nat.le_refl _));have b:=(n.out.below O).1;have p:=b.cell10;rw [d.out] at p;have a2:∀o:Obj,(w1.alloc o).cell? ⟨pp,10,none⟩=some (.slice M ps.length N):=fun o=>(World.cell?_of_block (((Below.refl _ w1).alloc (Nat.le_refl _) o).block pp (b.lt pp b.epp))).trans p;obtain ⟨i,hi,J,u,K⟩:=info_parts wL;have f:=b.row;rw [d.out] at f;obtain ⟨g,j,D,I,H,L,O2⟩:=pv (P:=Tryz.prog) Tryz.underlying85 hi J u K rfl w1 (w1.alloc (.cells #[.pointer (some ⟨sb,0,none⟩)] 91)) (.slice M ps.length N) (.pointer (some ⟨sb,0,none⟩)) ps.length ps f rfl ((Below.refl _ _).alloc (Nat.le_refl _) _) (heap_alloc_new w1 _) (by unfold maxLen;omega) (by omega);have V:=Lib.hid I;have T:=Lib.hid H;have z:=Lib.hid L;have U:=Lib.hid O2;have C:=L.some_ b.blk.choose_spec.1 (fun e=>(b.sd pp (by rw [d.out];exact e)).1 b.epp)
  have a4:D.cell? ⟨pp,10,none⟩=some (.slice M ps.length N):=by
   rw [←p];exact World.cell?_of_block (L.block pp (b.lt pp b.epp) (fun e=>(b.sd pp (by rw [d.out];exact e)).1 b.epp))
  have a5:=Lib.frozen_of_heap C 10;have a3:=Lib.hid b;have y:=Lib.hid O;clear b O f I H L O2 C hi J u K
  go_wp2_with (first
   | (at_builtin;refine bB rfl _ _ 85 rfl _ _ (.slice (some ⟨g,0,none⟩) (ps.length+1) j) D rfl rfl V.out ?_)
   | fail)
  refine bodyPost_ret (v:= .tuple #[.int .i64 (ps.length:Int),.string (bs (mX c)),.int .i64 0]) (by simp [results,Tryz.results13,go_sem]) rfl ⟨rfl,?_⟩;have t:∀k,(Value.slice M ps.length N).ownBlock=some k→vs.ownBlock=some k:=fun k e=>by rw [d.out];exact e
  have Kw:aH (fun k=>vs.ownBlock=some k) w D:=(aH.below y.out).trans z.out (fun k _ e=>t k e);have G:(ps++[Value.pointer (some ⟨sb,0,none⟩)]).length=ps.length+1:=by simp
  have u:w.heap.size≤w1.heap.size:=y.out.size;have m:w.heap.size≤sb:=X.out;have l:w.heap.size≤ch:=R.out;have a0:vs.ownBlock=some g∨w1.heap.size≤g:=U.out.imp (t g) id
  have r:∀k,(Value.slice (some ⟨g,0,none⟩) (ps.length+1) j).ownBlock=some k→vs.ownBlock=some k∨w1.heap.size≤k:=fun k e=>by
   injection e with e;have e:g=k:=e;rw [←e];exact a0
  obtain ⟨p1,p2,p3⟩:=n.out.conn (vs':= .slice (some ⟨g,0,none⟩) (ps.length+1) j) (ps':=ps++[Value.pointer (some ⟨sb,0,none⟩)]) Kw (by rw [G];exact T.out) (fun k e=>(r k e).imp id (fun e=>by omega));have a1:pp < w.heap.size:=n.out.lt pp n.out.epp;have K3:aH (fun k=>k < w.heap.size) w1 (D.setCell ⟨pp,10,none⟩ (.slice (some ⟨g,0,none⟩) (ps.length+1) j)):=(z.out.mono (fun k _ e=>n.out.slt (t k e))).trans (aH.same ((aL.refl pp D).setCell _)) (fun k _ e=>by rw [e];exact a1);have l1:sb < w1.heap.size:=ah W.out.blk;have l2:ch < w1.heap.size:=ah W.out.chan.choose_spec.choose_spec;refine ⟨sb,ch,_,⟨p1,⟨⟨.pointer none,W.out.chg K3 (by omega) (by omega),rfl⟩,.inl rfl,.inr rfl,fun k e=>?_⟩,World.ownsRow_nil _ _ _ _,fun k e x=>?_,fun k e x=>?_,(by intro g e;cases e),fun k e=>⟨fun x=>?_,(by intro x;cases x)⟩⟩,m,l,fun k e=>(r k e).imp id (fun e=>by omega),p2,p3⟩
  ·have:=K3.size
   rcases e with e | e <;> omega
  ·have:=n.out.lt k e
   rcases x with x | x <;> omega
  ·have:=an.lt n.out.bag (p2 k x)
   rcases e with e | e <;> omega
  ·have:k < w.heap.size∨w1.heap.size≤k:=(r k e).imp (fun e=>n.out.slt e) id
   rcases x with x | x <;> omega
end
structure eH where
 sb:Nat
 ch:Nat
 A:Nat→Prop
 vw:Value
 s:bG
def eH.own (x:eH) (k:Nat):Prop:=x.A k∨x.vw.ownBlock=some k
def fC:Option eH→Value
 | none=> .pointer none
 | some x=> .pointer (some ⟨x.sb,0,none⟩)
structure rp (E:Nat→Prop) (pp pb mb:Nat) (c:bX) (w:World) (q:Nat→Nat) (vr:Value) (S:aa) (recs:List UInt8) (vs:Value) (x:eH):Prop where
 ses:cI w x.A pp pb x.sb x.ch x.vw [] x.s
 row:lF w x.vw x.s.wait
 inv:gM c x.s S recs
 fe:∀k,x.own k→¬E k
 fb:∀k,x.own k→¬an w pb mb q vr S k
 fs:∀k,x.own k→vs.ownBlock≠some k
 fw:∀k,x.vw.ownBlock=some k→¬x.A k
structure bQ [Kn] (E:Nat→Prop) (pp pb mb:Nat) (c:bX) (w:World) (q:Nat→Nat) (vr:Value) (S:aa) (recs:List UInt8) (vs:Value) (l:List (Option eH)):Prop where
 post:dR E pp pb mb c w q vr S recs vs (l.map fC)
 ok:∀(n:Nat) (x:eH),l[n]? =some (some x)→rp E pp pb mb c w q vr S recs vs x
 apart:∀(n m:Nat) (x y:eH),n≠m→l[n]? =some (some x)→l[m]? =some (some y)→∀k,x.own k→¬y.own k
 len:l.length≤100
 keep:S.time≤1000000000∧zP S recs∧S.Ok
def ee (w:World) (pb mb:Nat) (q:Nat→Nat) (vr:Value) (S:aa) (vs:Value) (l:List (Option eH)) (k:Nat):Prop:=an w pb mb q vr S k∨vs.ownBlock=some k∨∃(n:Nat) (x:eH),l[n]? =some (some x)∧x.own k
section
variable {E B:Nat→Prop} {pp pb mb:Nat} {c:bX} {w w':World} {q:Nat→Nat} {vr:Value} {S:aa} {recs:List UInt8} {vs:Value} {l:List (Option eH)} {x:eH}
theorem rp.chg (h:rp E pp pb mb c w q vr S recs vs x) (b:aH B w w') (a:∀k,x.own k→¬B k) (d:∀k,an w' pb mb q vr S k→an w pb mb q vr S k):rp E pp pb mb c w' q vr S recs vs x:=
 ⟨h.ses.chg b (fun k e=>a k (.inl e)),bC h.row b (fun k e=>a k (.inr e)),h.inv,h.fe,fun k e y=>h.fb k e (d k y),h.fs,h.fw⟩
theorem rp.lt (h:rp E pp pb mb c w q vr S recs vs x) {k:Nat} (e:x.own k):k < w.heap.size:=e.elim (h.ses.lt k) (fun e=>(kD h.row e).2)
theorem bQ.olt [Kn] (h:bQ E pp pb mb c w q vr S recs vs l) {k:Nat} (d:ee w pb mb q vr S vs l k):k < w.heap.size:=by
 rcases d with e | e | ⟨n,x,a,b⟩
 ·exact an.lt h.post.bag e
 ·exact h.post.slt e
 ·exact (h.ok n x a).lt b
theorem bQ.eo [Kn] (h:bQ E pp pb mb c w q vr S recs vs l) {k:Nat} (e:E k):¬ee w pb mb q vr S vs l k:=fun x=>by
 rcases x with x | x | ⟨n,y,a,b⟩
 ·exact h.post.eb k e x
 ·exact (h.post.sd k x).1 e
 ·exact (h.ok n y a).fe k b e
theorem bQ.chg [Kn] (h:bQ E pp pb mb c w q vr S recs vs l) (b:aH B w w') (f:∀k,E k→¬B k) (a:∀k,ee w pb mb q vr S vs l k→¬B k):bQ E pp pb mb c w' q vr S recs vs l∧∀k,ee w' pb mb q vr S vs l k→ee w pb mb q vr S vs l k:=by
 obtain ⟨g,d⟩:=h.post.chg b f (fun k e=>a k (.inl e)) (fun k e=>a k (.inr (.inl e)));exact ⟨⟨g,fun n x e=>(h.ok n x e).chg b (fun k y=>a k (.inr (.inr ⟨n,x,e,y⟩))) d,h.apart,h.len,h.keep⟩,fun k e=>e.imp (d k) id⟩
theorem bQ.below [Kn] (h:bQ E pp pb mb c w q vr S recs vs l) (a:Below w.heap.size w w'):bQ E pp pb mb c w' q vr S recs vs l∧∀k,ee w' pb mb q vr S vs l k→ee w pb mb q vr S vs l k:=
 h.chg (aH.below a:aH (fun _=>False) w w') (fun _ _ e=>e) (fun _ _ e=>e)
theorem bQ.one [Kn] (h:bQ E pp pb mb c w q vr S recs vs l) {n:Nat} (a:l[n]? =some (some x)):gY E pp pb mb c w q vr S recs vs (l.map fC) x.sb x.ch x.A x.vw x.s:=by
 have o:=h.ok n x a;exact ⟨h.post,o.ses,o.row,fun k e y=>o.fe k (.inl y) e,fun k e y=>o.fb k (.inl e) y,fun g e=>⟨o.fe g (.inr e),o.fw g e,o.fb g (.inr e)⟩,fun g e=>⟨fun y=>o.fs g (.inl y) e,fun y=>o.fs g (.inr y) e⟩⟩
theorem En {l:List (Option eH)} (n:Nat) (v:Option eH):(l.set n v).map fC=(l.map fC).set n (fC v):=by rw [List.map_set]
theorem qY {l:List (Option eH)} {n m:Nat} {v:Option eH} {y:eH} (h:(l.set n v)[m]? =some (some y)):(m=n∧v=some y)∨(m≠n∧l[m]? =some (some y)):=by
 by_cases e:n=m
 ·subst e
  by_cases a:n < l.length
  ·rw [List.getElem?_set_self a] at h;exact .inl ⟨rfl,by injection h⟩
  ·rw [List.getElem?_eq_none (by simp;omega)] at h
   cases h
 ·rw [List.getElem?_set_ne e] at h;exact .inr ⟨Ne.symm e,h⟩
theorem bQ.heard [Kn] {t:aa} {d:List UInt8} {D:Nat→Prop} {H:Nat→Nat} {g i:Value} {L:bG} (h:bQ E pp pb mb c w q vr S recs vs l) {n:Nat} (K:l[n]? =some (some x)) (u:gM c L t d) {v:Option eH} (a:v=some ⟨x.sb,x.ch,D,i,L⟩∨v=none) (p:gY E pp pb mb c w' H g t d vs ((l.map fC).set n (fC v)) x.sb x.ch D i L) (Q:∀k,kJ w' pb mb D H g t i vs k→kJ w pb mb x.A q vr S x.vw vs k∨w.heap.size≤k) (P:aH (kJ w pb mb x.A q vr S x.vw vs) w w'):bQ E pp pb mb c w' H g t d vs (l.set n v)∧(∀k,ee w' pb mb H g t vs (l.set n v) k→ee w pb mb q vr S vs l k∨w.heap.size≤k)∧aH (ee w pb mb q vr S vs l) w w':=by
 have Y:=h.ok n x K
 have A:∀(m:Nat) (y:eH),m≠n→l[m]? =some (some y)→∀k,y.own k→¬kJ w pb mb x.A q vr S x.vw vs k:=fun m y s b k e z=>by
  have r:=h.ok m y b
  rcases z with (z | z | z) | z
  ·exact h.apart m n y x s b K k e (.inl z)
  ·exact r.fb k e z
  ·exact h.apart m n y x s b K k e (.inr z)
  ·exact r.fs k e z
 have j:∀(m:Nat) (y:eH),m≠n→l[m]? =some (some y)→∀k,y.own k→¬kJ w' pb mb D H g t i vs k:=fun m y s b k e z=>(Q k z).elim (A m y s b k e) (fun z=>by have:=(h.ok m y b).lt e;omega);have o:∀k,(eH.mk x.sb x.ch D i L).own k→kJ w' pb mb D H g t i vs k:=fun k e=>e.elim (fun e=> .inl (.inl e)) (fun e=> .inl (.inr (.inr e)))
 have C:∀k,kJ w pb mb x.A q vr S x.vw vs k→ee w pb mb q vr S vs l k:=fun k e=>by
  rcases e with (e | e | e) | e
  ·exact .inr (.inr ⟨n,x,K,.inl e⟩)
  ·exact .inl e
  ·exact .inr (.inr ⟨n,x,K,.inr e⟩)
  ·exact .inr (.inl e)
 refine ⟨⟨by rw [En];exact p.post,fun m y b=>?_,fun T U V W J X R k N O=>?_,by rw [List.length_set];exact h.len,⟨u.time,u.len,u.recs⟩⟩,fun k e=>?_,P.mono (fun k _ e=>C k e)⟩
 ·rcases qY b with ⟨_,e⟩ | ⟨s,b⟩
  ·rcases a with a | a
   ·rw [a] at e;injection e with e;subst e;exact ⟨p.ses,p.wrow,u,fun k e y=>e.elim (fun e=>p.ea k y e) (fun e=>(p.wd k e).1 y),fun k e y=>e.elim (fun e=>p.ab k e y) (fun e=>(p.wd k e).2.2 y),fun k e y=>e.elim (fun e=>(p.sa k y).1 e) (fun e=>(p.sa k y).2 e),fun k e=>(p.wd k e).2.1⟩
   ·rw [a] at e;cases e
  ·have r:=h.ok m y b;exact ⟨r.ses.chg P (fun k e=>A m y s b k (.inl e)),bC r.row P (fun k e=>A m y s b k (.inr e)),⟨r.inv.tx,u.time,u.len,u.recs,r.inv.wait⟩,r.fe,fun k e z=>j m y s b k e (.inl (.inr (.inl z))),r.fs,r.fw⟩
 ·rcases qY X with ⟨M,F⟩ | ⟨M,g1⟩
  ·rcases qY R with ⟨I,_⟩ | ⟨I,g2⟩
   ·exact J (M.trans I.symm)
   ·rcases a with a | a
    ·rw [a] at F;injection F with F;subst F;exact j U W I g2 k O (o k N)
    ·rw [a] at F;cases F
  ·rcases qY R with ⟨I,G⟩ | ⟨I,g2⟩
   ·rcases a with a | a
    ·rw [a] at G;injection G with G;subst G;exact j T V M g1 k N (o k O)
    ·rw [a] at G;cases G
   ·exact h.apart T U V W J g1 g2 k N O
 ·rcases e with e | e | ⟨m,y,b,e⟩
  ·exact (Q k (.inl (.inr (.inl e)))).imp (C k) id
  ·exact .inl (.inr (.inl e))
  ·rcases qY b with ⟨_,f⟩ | ⟨s,b⟩
   ·rcases a with a | a
    ·rw [a] at f;injection f with f;subst f;exact (Q k (o k e)).imp (C k) id
    ·rw [a] at f;cases f
   ·exact .inl (.inr (.inr ⟨m,y,b,e⟩))
end
section
variable {E B:Nat→Prop} {pp pb mb:Nat} {c:bX} {w w':World} {q:Nat→Nat} {vr:Value} {S:aa} {recs:List UInt8} {vs:Value} {l:List (Option eH)} {x:eH}
end
theorem gn.trans [Kn] {b a:Nat} {q l:Nat→Nat} {d c:Value} {S:aa} {x y:aa×List UInt8} {w g m:World} (i:aH (an w b a q d S) w g) (j:∀k,an g b a l c x.1 k→an w b a q d S k∨w.heap.size≤k) (h:gn b a l c x.1 y g m):gn b a q d S y w m:=by
 obtain ⟨r,f,n,o,p⟩:=h;exact ⟨r,f,n,i.trans o (fun k s e=>(j k e).elim id (fun e=>by omega)),fun k e=>(p k e).elim (j k) (fun e=> .inr (Nat.le_trans i.size e))⟩
theorem gn.below [Kn] {pb b:Nat} {q:Nat→Nat} {c:Value} {S:aa} {a:List UInt8} {y:aa×List UInt8} {w f g:World} (i:fv w pb b q c S a) (d:Below w.heap.size w f) (h:gn pb b q c S y f g):gn pb b q c S y w g:=
 gn.trans (x:=(S,a)) (aH.below d) (fun _ e=> .inl (e.imp (cR i.inn d) id)) h
theorem fv.timed [Kn] {a c:Nat} {q:Nat→Nat} {d:Value} {S:aa} {b:List UInt8} {w:World} (h:fv w a c q d S b) (T:Nat):fv (w.setCell ⟨a,1,none⟩ (.int .i64 T)) a c q d ⟨S.items,T⟩ b∧aH (an w a c q d S) w (w.setCell ⟨a,1,none⟩ (.int .i64 T))∧∀k,an (w.setCell ⟨a,1,none⟩ (.int .i64 T)) a c q d ⟨S.items,T⟩ k→an w a c q d S k∨w.heap.size≤k:=by
 have f:aL a w (w.setCell ⟨a,1,none⟩ (.int .i64 T)):=(aL.refl _ _).setCell _;obtain ⟨l,m⟩:=ym (T:=T) h.inn f;refine ⟨⟨h.inn.timed f (heap_setCell_same w a 1 _ _ (.int .i64 T) h.inn.bag),h.row.chg (aH.same f) (fun g i e=>Dq h.inn h.row (by rw [←e];exact i)),m.due (fun _ j=>j) h.due,h.kn⟩,(aH.same f).mono (fun k _ e=> .inl (.inl e)),fun k e=>?_⟩
 rcases e with e | e
 ·exact (l.own k e).imp .inl id
 ·exact .inl (.inr e)
theorem II [Kn] (m o:Nat) (q:Nat→Nat) (s:Value) (S:aa) (f:List UInt8) (T:Nat) (d n:Int) (w:World) (h:fv w m o q s S f) (hx:oK (S,f)) (hT:T≤1000000000) (hm:w.cell? ⟨0,0,none⟩=some (.int .i64 n)) (R:¬an w m o q s S 0):
  Calls Tryz.prog 50 #[.pointer (some ⟨m,0,none⟩),.int .i64 T,.int .i64 d] w fun e w'=>e= .returned (.tuple #[])∧gn m o q s S (dw d (⟨S.items,T⟩,f) S.live) w w':=by
 obtain ⟨R0,K0,O0⟩:=h.timed T;have b1:oK ((⟨S.items,T⟩:aa),f):=⟨hx.ok.time T,hx.led,hT⟩;have c1:w.cell? ⟨m,1,none⟩=some (.int .i64 S.time):=by rw [Lib.cell_of_heap h.inn.bag];rfl
 have f1:w.frozen? ⟨m,1,none⟩=false:=Lib.frozen_of_heap h.inn.bag 1;have F:0 < w.heap.size:=aC hm;have M0:(w.setCell ⟨m,1,none⟩ (.int .i64 T)).cell? ⟨0,0,none⟩=some (.int .i64 n):=(World.cell?_of_block (K0.block _ F R)).trans hm;obtain ⟨z,O⟩:∃z:World,w.setCell ⟨m,1,none⟩ (.int .i64 T)=z:=⟨_,rfl⟩;rw [O] at R0 K0 O0 M0;have J:¬an z m o q s ⟨S.items,T⟩ 0:=fun e=>(O0 _ e).elim R (fun e=>by omega);have c3:w.cell? ⟨m,3,none⟩=some (.map (some o)):=by rw [Lib.cell_of_heap h.inn.bag];rfl
 have a0:=Lib.hid (lB b1 d (l:=S.live) (fun i hi=>hi) (gJ S));have a8:=uG S;have d9:S.items.length≤1000000:=hx.led.items;have c9:=Lib.hid O;have u:=Lib.hid R0;have b7:=Lib.hid K0;have c2:=Lib.hid O0;have a1:=Lib.hid M0;have c0:=Lib.hid J;clear h hx b1 R0 K0 O0 hm R J M0 O F;go_enter Tryz.func50,Tryz.ntmps50;go_wp2_with fail
 rw [c9.out];refine (AU (some o) z).mono ?_;rintro e w2 ⟨rfl,b0⟩;have a4:=Lib.hid b0;clear b0 c3;go_wp2_with fail
 rw [a4.out];refine (nF z o S.items.length q S.live u.out.inn.map (fun i hi=>bq hi) (oz S) (by omega) a8).mono ?_;rintro e A ⟨vk,rfl,D,a5⟩;have Y:Below z.heap.size z A:=((Below.refl _ z).alloc (Nat.le_refl _) _).trans (a5.mono (by omega))
 obtain ⟨ak,ck,rfl⟩:∃a c,vk= .slice a S.live.length c:=by
  rcases D.2 with ⟨e,h0⟩ | ⟨g,d5,d6,e,_⟩
  ·exact ⟨_,_,by rw [h0];exact e⟩
  ·exact ⟨_,_,e⟩
 have R3:=u.out.below Y;have r:∀k,an A m o q s ⟨S.items,T⟩ k→an z m o q s ⟨S.items,T⟩ k:=fun k e=>e.imp (cR u.out.inn Y) id;have c8:=Lib.hid (aF D)
 have c5:Hid (∀g,(Value.slice ak S.live.length ck).ownBlock=some g→¬an A m o q s ⟨S.items,T⟩ g):=Lib.hid (fun g hg e=>by
  have h1:=(D.lt g hg).1;have h2:=an.lt u.out (r g e)
  omega)
 have F:0 < z.heap.size:=aC a1.out;have a2:Hid (A.cell? ⟨0,0,none⟩=some (.int .i64 n)):=Lib.hid ((Y.cell F).trans a1.out);have a3:Hid (¬an A m o q s ⟨S.items,T⟩ 0):=Lib.hid (fun e=>c0.out (r _ e));have Z:Hid (gn m o q s ⟨S.items,T⟩ (⟨S.items,T⟩,f) A A):=Lib.hid ⟨q,s,R3,aH.refl _ _,fun k e=> .inl e⟩;have b3:=Lib.hid Y;clear D a5 R3 Y r a4;go_wp2_with fail
 go_loopw [7,8,20] (fun _ _ i w'=>∃k:Nat,k≤S.live.length∧i= .int .i64 k∧Hid (gn m o q s ⟨S.items,T⟩ (dw d (⟨S.items,T⟩,f) (S.live.take k)) A w')) (fun _ _ i _=>S.live.length - (intOf i).toNat)
 case atStart=>exact ⟨0,Nat.zero_le _,rfl,Z⟩
 case round=>
  clear Z;obtain ⟨k,hk,rfl,V⟩:=hrel;obtain ⟨q1,b2,B,N,O1⟩:=V.out
  by_cases E:k < S.live.length
  ·have d3:(k:Int) < (S.live.length:Int):=by omega
   obtain ⟨G,i2,i3,_⟩:=a0.out k hk;obtain ⟨y,ey⟩:∃y,dw d (⟨S.items,T⟩,f) (S.live.take k)=y:=⟨_,rfl⟩;have K:Hid (dw d (⟨S.items,T⟩,f) (S.live.take (k+1))=kW d y S.live[k]):=Lib.hid (by rw [List.take_succ_eq_append_getElem E,pg,ey]);rw [ey] at B O1 G i2 i3;have p:S.live[k]∈y.1.live:=i2 _ (by rw [List.drop_eq_getElem_cons E];exact List.mem_cons_self ..);obtain ⟨a',d2,ea,hc⟩:=(c8.out.chg N c5.out).one;injection ea with ea1 _ ea3;subst ea1 ea3;obtain ⟨b,e3,rfl,d7,v⟩:=hc k E;have Q:((iK S.live).map fun (i:Int)=>Value.int .i64 i)[k]? =some (.int .i64 ((S.live[k]:Int)+1)):=by simp [iK,E]
   rw [Q] at v
   generalize S.live[k]=i at v p K
   have a7:=bq p;have e1:y.1.items.length≤1000000:=G.led.items;have d4:wr.cell? ⟨m,3,none⟩=some (.map (some o)):=by rw [Lib.cell_of_heap B.inn.bag];rfl
   have d8:(Instr.lookup 115 (.map (some o)) (.int .i64 ((i:Int)+1)) false).run Tryz.prog wr= .ok (.pointer (some ⟨q1 i,0,none⟩)) wr:=
    ig (t:=115) (e:=122) fU Tryz.underlying115 B.inn.map (fun j hj=>by have:=bq hj;omega) i (by omega) p false
   obtain ⟨_,v0,x0,C,U⟩:=B.inn.mail i p;have m0:wr.cell? ⟨q1 i,0,none⟩=some (.int .i64 ((y.1.mailOf i).time:Int)):=by rw [Lib.cell_of_heap C];rfl
   have hz:dQ (y.1.mailOf i):=by rw [cd a7];exact (G.ok.sz _ (List.getElem_mem a7)).1
   have e2:=hz.2.1;obtain ⟨M,X⟩:∃M,(y.1.mailOf i).time=M:=⟨_,rfl⟩;have e0:IntKind.i64.wrap ((T:Int) - (M:Int))=(T:Int) - (M:Int):=by rw [IntKind.wrap_i64];omega
   have i3:y.1.time=T:=i3
   by_cases H:d≤(T:Int) - (M:Int)
   ·have c6:=Lib.hid (Dr 0 (q1 i) _ _ _ v0 (y.1.stayOf i) x0 wr C U (by have:=dk G.ok i;omega));obtain ⟨fa,fb,fc⟩:=ud G p;have I:0 < A.heap.size:=aC a2.out
    have d0:Hid (∀vp (W:World),Below wr.heap.size wr W→W.ownsRow wr.heap.size 3 1 vp (y.1.stayOf i).length (aZ ((y.1.stayOf i).map (·.1)))→Calls Tryz.prog 83 #[.pointer (some ⟨m,0,none⟩),.int .i64 ((i:Int)+1),vp] W fun e w'=>e= .returned (.tuple #[])∧gn m o q1 b2 y.1 (jr y i ((y.1.stayOf i).map (·.1))) W w'):=Lib.hid (fun vp W hb hr=>by
     refine nI m o q1 b2 vp y.1 y.2 i _ n W (B.below hb) G (by rw [List.length_map];exact aF hr) ?_ (by omega) fa (kE G.ok i) fb fc
     exact (hb.cell (Nat.lt_of_lt_of_le I N.size)).trans ((World.cell?_of_block (N.block _ I a3.out)).trans a2.out))
    have L:Hid (kW d y i=jr y i ((y.1.stayOf i).map (·.1))):=Lib.hid (by unfold kW;rw [if_pos (by rw [i3,X];exact H)]);rw [X] at m0;have b8:=Lib.hid N;have c4:=Lib.hid O1;have c7:=Lib.hid B;clear B N O1 C U hc Q V G i2 ey fa fb fc hz X;go_wp2_with fail
    refine c6.out.mono ?_;rintro e w4 ⟨g,rfl,a9,P⟩;have b5:=Lib.hid (d0.out _ w4 P a9);have b4:=Lib.hid P;clear a9 P;go_wp2_with fail
    refine b5.out.mono ?_;rintro e w5 ⟨rfl,a6⟩;have b6:Hid (gn m o q s ⟨S.items,T⟩ (jr y i ((y.1.stayOf i).map (·.1))) A w5):=Lib.hid (gn.trans (x:=y) b8.out c4.out (gn.below c7.out b4.out a6));clear a6;go_wp2_with fail
    exact ⟨⟨k+1,by omega,by go_num,Lib.hid (by rw [K.out,L.out];exact b6.out)⟩,by simp [intOf];omega⟩
   ·have L:Hid (kW d y i=y):=Lib.hid (by unfold kW;rw [if_neg (by rw [i3,X];exact H)]);rw [X] at m0;rw [ey] at V;clear B N O1 C U hc Q G i2 ey hz X;go_wp2_with fail
    exact ⟨⟨k+1,by omega,by go_num,Lib.hid (by rw [K.out,L.out];exact V.out)⟩,by simp [intOf];omega⟩
  ·have d1:k=S.live.length:=by omega
   subst d1;rw [List.take_length] at V;clear B N O1;go_wp2_with fail
   refine bodyPost_end (results_none rfl _ _ _) rfl ?_;exact ⟨rfl,gn.trans (x:=((⟨S.items,T⟩:aa),f)) b7.out c2.out (gn.below u.out b3.out V.out)⟩
section
variable {E B:Nat→Prop} {pp pb mb:Nat} {c:bX} {w w':World} {q q':Nat→Nat} {vr vr':Value} {S S':aa} {recs recs':List UInt8} {vs:Value} {l:List (Option eH)}
theorem bQ.bagged [K:Kn] {D':Nat→Int×Int} {n':Nat} (h:bQ E pp pb mb c w q vr S recs vs l) (D:@fv (Kn.mk D' n' K.tk) w' pb mb q' vr' S' recs') (a:aH B w w') (f:∀k,E k→¬B k) (A:∀k,vs.ownBlock=some k→¬B k) (i:∀(n:Nat) (x:eH),l[n]? =some (some x)→∀k,x.own k→¬B k) (j:∀k,an w' pb mb q' vr' S' k→an w pb mb q vr S k∨w.heap.size≤k) (d:oK (S',recs')):
  @bQ (Kn.mk D' n' K.tk) E pp pb mb c w' q' vr' S' recs' vs l∧∀k,ee w' pb mb q' vr' S' vs l k→ee w pb mb q vr S vs l k∨w.heap.size≤k:=by
 obtain ⟨G,H,I,J,F,m⟩:=h.post.set;obtain ⟨C,p,r,s,t,u⟩:=h.post.blk;have b:∀k,k < w.heap.size→¬an w pb mb q vr S k→¬an w' pb mb q' vr' S' k:=fun k L v z=>(j k z).elim v (fun e=>by omega);refine ⟨@bQ.mk (Kn.mk D' n' K.tk) _ _ _ _ _ _ _ _ _ _ _ _ (@dR.mk (Kn.mk D' n' K.tk) _ _ _ _ _ _ _ _ _ _ _ _ ⟨G,H,I,J,F.chg a (fun k e=>f k (m k e).1) (f pp h.post.epp),m⟩ (h.post.glo.chg a (fun k e=>f k (h.post.egl k e))) h.post.egl h.post.gpp h.post.epp (fun k e=>Nat.lt_of_lt_of_le (h.post.lt k e) a.size) ⟨C,a.some_ p (f pp h.post.epp),r,s,t,u⟩ D (bC h.post.row a A) (fun k e=>b k (h.post.lt k e) (h.post.eb k e)) (fun g e=>⟨(h.post.sd g e).1,b g (h.post.slt e) (h.post.sd g e).2⟩)) (fun n x e=>?_) h.apart h.len ⟨d.time,d.led,d.ok⟩,fun k e=>?_⟩
 ·have o:=h.ok n x e;exact rp.mk (o.ses.chg a (fun k y=>i n x e k (.inl y))) (bC o.row a (fun k y=>i n x e k (.inr y))) ⟨o.inv.tx,d.time,d.led,d.ok,o.inv.wait⟩ o.fe (fun k y=>b k (o.lt y) (o.fb k y)) o.fs o.fw
 ·rcases e with e | e | e
  ·exact (j k e).imp .inl id
  ·exact .inl (.inr (.inl e))
  ·exact .inl (.inr (.inr e))
theorem bQ.sok [Kn] (h:bQ E pp pb mb c w q vr S recs vs l):oK (S,recs):=⟨h.keep.2.2,h.keep.2.1,h.keep.1⟩
end
theorem mN {a pb mb:Nat} {q:Nat→Nat} {vr:Value} {S:aa} {w:World} (h:bh a w pb mb q vr S):Calls Tryz.prog 49 #[.pointer (some ⟨pb,0,none⟩)] w fun e b=>e= .returned (.int .i64 (S.time:Int))∧w=b:=by
 have d:w.cell? ⟨pb,1,none⟩=some (.int .i64 S.time):=by rw [Lib.cell_of_heap h.bag];rfl
 clear h;go_enter Tryz.func49,Tryz.ntmps49;go_wp2_with fail
 go_ret;exact ⟨rfl,rfl⟩
section
variable {E:Nat→Prop} {pp pb mb:Nat} {c:bX} {w:World} {q:Nat→Nat} {vr:Value} {S:aa} {recs:List UInt8} {vs:Value} {l:List (Option eH)}
theorem DU [Kn] (h:bQ E pp pb mb c w q vr S recs vs l) (T:Int) (j:¬((S.time:Int)≤T∧T≤1000000000)):
  Calls Tryz.prog 23 #[.pointer (some ⟨pp,0,none⟩),.int .i64 T] w fun e b=>e= .returned (.int .i64 3)∧w=b:=by
 have f:=h.post.cell9;have a:=Lib.hid (mN h.post.bag.inn);clear h
 by_cases g:T < (S.time:Int)
 ·go_enter Tryz.func23,Tryz.ntmps23;go_wp2_with (first | (go_at_call 49;refine a.out.mono ?_;rintro e d ⟨rfl,rfl⟩) | fail)
  go_ret;exact ⟨rfl,rfl⟩
 ·have i:(1000000000:Int) < T:=by omega
  go_enter Tryz.func23,Tryz.ntmps23;go_wp2_with (first | (go_at_call 49;refine a.out.mono ?_;rintro e d ⟨rfl,rfl⟩) | fail)
  go_ret;exact ⟨rfl,rfl⟩
theorem BU [K:Kn] (h:bQ E pp pb mb c w q vr S recs vs l) (T:Int) (d:(S.time:Int)≤T∧T≤1000000000) (g:Nat) (f:K.tk= .pointer (some ⟨g,0,none⟩)):
  Calls Tryz.prog 23 #[.pointer (some ⟨pp,0,none⟩),.int .i64 T] w fun e i=>e= .returned (.int .i64 6)∧w=i:=by
 have j:=h.post.cell9;have a:=h.post.cell11;rw [f] at a;have b:=Lib.hid (mN h.post.bag.inn);have k:¬T < (S.time:Int):=by omega
 have m:¬(1000000000:Int) < T:=by omega
 clear h d;go_enter Tryz.func23,Tryz.ntmps23;go_wp2_with (first | (go_at_call 49;refine b.out.mono ?_;rintro e n ⟨rfl,rfl⟩) | fail)
 go_ret;exact ⟨rfl,rfl⟩
def Km [K:Kn] (E:Nat→Prop) (pp pb mb:Nat) (c:bX) (w:World) (q:Nat→Nat) (vr:Value) (S:aa) (vs:Value) (l:List (Option eH)) (y:aa×List UInt8) (w':World):Prop:=
 ∃q' vr',bQ E pp pb mb c w' q' vr' y.1 y.2 vs l∧(∀k,ee w' pb mb q' vr' y.1 vs l k→ee w pb mb q vr S vs l k∨w.heap.size≤k)∧aH (ee w pb mb q vr S vs l) w w'
theorem J6 [K:Kn] (h:bQ E pp pb mb c w q vr S recs vs l) (T:Nat) (p:S.time≤T∧T≤1000000000) (I:K.tk= .pointer none):
  Calls Tryz.prog 23 #[.pointer (some ⟨pp,0,none⟩),.int .i64 (T:Int)] w fun e P=>e= .returned (.int .i64 0)∧Km E pp pb mb c w q vr S vs l (dw c.life (⟨S.items,T⟩,recs) S.live) P:=by
 have G:=h.post.cell9;have o:=h.post.cell11;rw [I] at o;have C:=Lib.hid (mN h.post.bag.inn);have V:¬(T:Int) < (S.time:Int):=by omega
 have W:¬(1000000000:Int) < (T:Int):=by omega
 obtain ⟨X,Z,vU,vW,B,O⟩:=h.post.set;have R:w.drew.cell? ⟨pp,7,none⟩=some (.int .i64 c.life):=B.cell 7 (by decide);have U:w.drew.cell? ⟨pp,9,none⟩=some (.pointer (some ⟨pb,0,none⟩)):=G;obtain ⟨m,r⟩:=h.post.glo.len;have g:=aC r;have u:E 0:=h.post.egl _ (.inl rfl);have j:Below w.heap.size w w.drew:=(Below.refl _ _).drew;have f:=Lib.hid (II pb mb q vr S recs T c.life m w.drew (h.post.bag.below j) h.sok p.2 ((j.cell g).trans r) (fun e=>h.post.eb _ u (e.imp (cR h.post.bag.inn j) id)));have a:=lB (x:=((⟨S.items,T⟩:aa),recs)) ⟨h.sok.ok.time T,h.sok.led,p.2⟩ c.life (l:=S.live) (fun i H=>H) (gJ S) S.live.length (Nat.le_refl _);rw [List.take_length] at a;have d:=Lib.hid a.1;have b:=Lib.hid h;obtain ⟨Y,t⟩:∃Y,dw c.life (⟨S.items,T⟩,recs) S.live=Y:=⟨_,rfl⟩;rw [t] at f d ⊢;clear h B O r g u j a t p;go_enter Tryz.func23,Tryz.ntmps23;go_wp2_with (first | (go_at_call 49;refine C.out.mono ?_;rintro e Q ⟨rfl,rfl⟩) | fail)
 go_region_law (first
  | (go_simp;go_at_call 50;refine f.out.mono ?_;rintro e Q ⟨rfl,v⟩;have D:=Lib.hid (gn.below b.out.post.bag ((Below.refl w.heap.size w).drew) v);clear v;dsimp only))
 all_goals
  go_wp2_with fail
  go_ret;obtain ⟨N,s,F,A,J⟩:=D.out;obtain ⟨L,M⟩:=bQ.bagged (D':=K.D0) (n':=K.n0) b.out F A (fun k e x=>b.out.post.eb k e x) (fun k e x=>(b.out.post.sd k e).2 x) (fun n x e k y z=>(b.out.ok n x e).fb k y z) J d.out;exact ⟨rfl,N,s,L,M,A.mono (fun k _ e=> .inl e)⟩
end
structure oi [K:Kn] (w:World) (tb ch pp pb mb:Nat) (q:Nat→Nat) (vr va vu vl:Value) (frm body:List UInt8) (cap:Nat) (S:aa) (recs:List UInt8) (t:aQ) (ws:List Int) (vW:Value) (n:Int):Prop where
 talk:bR w tb ch pp pb va vu vl frm body cap false t
 bag:fv w pb mb q vr S recs
 sok:oK (S,recs)
 live:t.i∈S.live
 ok:dC (S.stayOf t.i) t
 due:0≤(bV S t.i).2∧(bV S t.i).2≤1000000000000
 wai:w.cell? ⟨pp,6,none⟩=some vW
 row:bg w vW ws.length 1 (ib ws)
 wb:1≤ws.length∧ws.length≤100∧∀x∈ws,1≤x∧x≤1000000000
 ml:w.cell? ⟨0,0,none⟩=some (.int .i64 n)
 apart:∀k,lA tb ch va vl k→¬an w pb mb q vr S k
 env:∀k,(k=pp∨k=0∨vW.ownBlock=some k)→k < w.heap.size∧¬an w pb mb q vr S k∧¬lA tb ch va vl k
def cV (S:aa) (recs:List UInt8) (t:aQ):aa×List UInt8:=kR (S,recs) t.i (t.took true) (t.took false)
def nt [Kn] (S:aa) (t:aQ) (ws:List Int):Int×Int:=(S.time+kH ws (bV S t.i).2,(bV S t.i).2+1)
def lD [K:Kn] (tb ch pp pb mb:Nat) (q:Nat→Nat) (vr va vu vl:Value) (frm body:List UInt8) (S:aa) (recs:List UInt8) (t:aQ) (ws:List Int) (w w':World):Prop:=
 w'.heap[tb]? =some (.cells (fo pp pb ch va vu vl frm body true t) 153 (0,0))∧(∃q' vr',@fv (iQ K (cV S recs t).1 t.i (nt S t ws)) w' pb mb q' vr' (cV S recs t).1 (cV S recs t).2∧∀k,an w' pb mb q' vr' (cV S recs t).1 k→an w pb mb q vr S k∨w.heap.size≤k)∧aH (fun k=>lA tb ch va vl k∨an w pb mb q vr S k) w w'
section
variable [K:Kn] {w:World} {tb ch pp pb mb:Nat} {q:Nat→Nat} {vr va vu vl:Value} {frm body:List UInt8} {cap:Nat} {S:aa} {recs:List UInt8} {t:aQ} {ws:List Int} {vW:Value} {n:Int}
theorem oi.over (h:oi w tb ch pp pb mb q vr va vu vl frm body cap S recs t ws vW n) {a:World} (d:w.setCell ⟨tb,10,none⟩ (.bool true)=a):
  a.heap[tb]? =some (.cells (fo pp pb ch va vu vl frm body true t) 153 (0,0))∧aH (fun k=>k=tb) w a∧(∃s r,a.heap[ch]? =some (.chan cap (t.came.map df).toArray false s r false))∧a.cell? ⟨tb,9,none⟩=some (.chan (some ch)):=by
 have b:aL tb w a:=by rw [←d];exact (aL.refl _ _).setCell _
 have c:a.heap[tb]? =some (.cells (fo pp pb ch va vu vl frm body true t) 153 (0,0)):=by rw [←d];exact heap_setCell_same w tb 10 _ _ (.bool true) h.talk.blk
 obtain ⟨s,r,e⟩:=h.talk.chan;exact ⟨c,aH.same b,⟨s,r,aP b e (Ne.symm h.talk.tc)⟩,by rw [Lib.cell_of_heap c];rfl⟩
theorem oi.settle (h:oi w tb ch pp pb mb q vr va vu vl frm body cap S recs t ws vW n) {A z W:World} {D C:Value} (x1:A.heap[tb]? =some (.cells (fo pp pb ch va vu vl frm body true t) 153 (0,0))) (J:aH (fun k=>k=tb) w A) (j:kK A z ch D C (t.took true) (t.took false)) (o:Below z.heap.size z W):
  W.heap[tb]? =some (.cells (fo pp pb ch va vu vl frm body true t) 153 (0,0))∧W.cell? ⟨pp,6,none⟩=some vW∧Calls Tryz.prog 79 #[.pointer (some ⟨pb,0,none⟩),.int .i64 ((t.i:Int)+1),D,C,vW] W fun e w'=>e= .returned (.tuple #[])∧lD tb ch pp pb mb q vr va vu vl frm body S recs t ws w w':=by
 have i:aH (fun k=>lA tb ch va vl k) w W:=((J.mono (fun _ _ e=> .inl e)).trans j.chg (fun _ _ e=> .inr (.inl e))).trans (aH.below o:aH (fun _=>False) z W) (fun _ _ e=>e.elim);have Y:tb < w.heap.size:=ah h.talk.blk;have T:ch < w.heap.size:=by obtain ⟨s,r,R⟩:=h.talk.chan;exact ah R
 have U:=J.size;have V:=j.chg.size;have X:=o.size;have G:W.heap[tb]? =some (.cells (fo pp pb ch va vu vl frm body true t) 153 (0,0)):=ae o (j.chg.some_ x1 (fun e=>h.talk.tc e));obtain ⟨M,m⟩:=h.bag.chg i (fun k e O=>h.apart k O e);have d:∀(a:Addr),(a.block=pp∨a.block=0∨vW.ownBlock=some a.block)→W.cell? a=w.cell? a:=fun a e=>World.cell?_of_block (i.block a.block (h.env _ e).1 (h.env _ e).2.2);have hL:(S.stayOf t.i).length≤10:=dk h.sok.ok t.i;have f:∀b,∀p∈t.took b,p∈(S.stayOf t.i).map (·.1):=fun b p B=>h.ok.sub p (by unfold aQ.act;exact List.mem_append.2 (.inr (ob B)));have c:∀b,∀p∈t.took b,p≤255:=fun b p B=>kE h.sok.ok t.i p (f b p B);have u:∀b,(t.took b).length≤100:=fun b=>by have:=kF h.ok b;omega
 have y:∀{v:Value} {l:List Nat},z.ownsRow A.heap.size 3 1 v l.length (aZ l)→Kc W pb mb q vr S v:=fun I g H=>⟨by have:=(I.lt g H).2;omega,fun e=>by have:=an.lt h.bag (m g e);have:=(I.lt g H).1;omega⟩
 refine ⟨G,(d ⟨pp,6,none⟩ (.inl rfl)).trans h.wai,?_⟩;refine (DH pb mb q vr D C vW S recs t.i (t.took true) (t.took false) ws n W M h.sok h.live (aF (aA j.rg fun _ _ e _=>ae o e)) (aF (aA j.rf fun _ _ e _=>ae o e)) (h.row.chg i (fun g e=>(h.env g (.inr (.inr e))).2.2)) (y j.rf) (fun g e=>⟨Nat.lt_of_lt_of_le (h.env g (.inr (.inr e))).1 i.size,fun x=>(h.env g (.inr (.inr e))).2.1 (m g x)⟩) ((d ⟨0,0,none⟩ (.inr (.inl rfl))).trans h.ml) (fun x=>(h.env _ (.inr (.inl rfl))).2.1 (m _ x)) (u _) (u _) (c _) (c _) (jg (iu h.ok _)) (jg (iu h.ok _)) (f _) (f _) (fun p P Q=>mn h.ok P Q) h.wb.1 h.wb.2.1 h.wb.2.2 h.due.1 h.due.2).mono ?_;rintro e w3 ⟨rfl,Z,E,N,F,L⟩;refine ⟨rfl,F.some_ G (fun e=>h.apart tb (.inl rfl) (m tb e)),⟨Z,E,N,fun k e=>(L k e).elim (fun e=> .inl (m k e)) (fun e=> .inr (Nat.le_trans i.size e))⟩,(i.mono (fun _ _ e=> .inl e)).trans F (fun k _ e=> .inr (m k e))⟩
theorem BS (h:oi w tb ch pp pb mb q vr va vu vl frm body cap S recs t ws vW n):
  Calls Tryz.prog 46 #[.pointer (some ⟨tb,0,none⟩)] w fun e F=>e= .returned (.tuple #[])∧lD tb ch pp pb mb q vr va vu vl frm body S recs t ws w F:=by
 have l:w.cell? ⟨tb,10,none⟩=some (.bool false):=h.talk.cell 10;have m:=h.talk.frozen 10;obtain ⟨o,a⟩:∃o:World,w.setCell ⟨tb,10,none⟩ (.bool true)=o:=⟨_,rfl⟩;obtain ⟨A,x,⟨s,r,y⟩,z⟩:=h.over a
 have v:t.came.length≤1000:=by
  have p:=h.ok.room;have O:(S.stayOf t.i).length≤10:=dk h.sok.ok t.i;unfold aQ.act at p;rw [List.length_append,List.length_map] at p;omega
 have i:=Lib.hid (qz tb ch cap s r t o h.talk.tc z y v);have B:=Lib.hid h;have k:=Lib.hid A;have f:=Lib.hid x;have j:=Lib.hid a;clear h A x y z a v;go_enter Tryz.func46,Tryz.ntmps46;go_wp2_with fail
 rw [j.out];refine i.out.mono ?_;rintro e c ⟨R,Q,rfl,b,_⟩;obtain ⟨d,P,g⟩:=B.out.settle k.out f.out b ((Below.refl _ c).drew);have g:=Lib.hid g;have L:c.drew.cell? ⟨tb,0,none⟩=some (.pointer (some ⟨pp,0,none⟩)):=by rw [Lib.cell_of_heap d];rfl
 have M:c.drew.cell? ⟨tb,1,none⟩=some (.pointer (some ⟨pb,0,none⟩)):=by rw [Lib.cell_of_heap d];rfl
 have N:c.drew.cell? ⟨tb,2,none⟩=some (.int .i64 ((t.i:Int)+1)):=by rw [Lib.cell_of_heap d];rfl
 obtain ⟨H,J,E⟩:=aE (aF b.rg);obtain ⟨G,I,D⟩:=aE (aF b.rf);subst E D;clear d b l m;go_wp2_with fail
 go_region_law (first
  | (go_simp;go_at_call 79;refine g.out.mono ?_;rintro e T ⟨rfl,u⟩;have C:=Lib.hid u;clear u;dsimp only))
 all_goals
  go_wp2_with fail
  refine bodyPost_end (results_none rfl _ _ _) rfl ?_;exact ⟨rfl,C.out⟩
theorem FZ (u:FrameMode) (h:oi w tb ch pp pb mb q vr va vu vl frm body cap S recs t ws vW n):
  CallsD Tryz.prog 46 #[.pointer (some ⟨tb,0,none⟩)] u w fun e u' G=>u'=u∧e= .returned (.tuple #[])∧lD tb ch pp pb mb q vr va vu vl frm body S recs t ws w G:=by
 have l:w.cell? ⟨tb,10,none⟩=some (.bool false):=h.talk.cell 10;have m:=h.talk.frozen 10;obtain ⟨o,a⟩:∃o:World,w.setCell ⟨tb,10,none⟩ (.bool true)=o:=⟨_,rfl⟩;obtain ⟨B,y,⟨s,r,z⟩,A⟩:=h.over a
 have x:t.came.length≤1000:=by
  have p:=h.ok.room;have P:(S.stayOf t.i).length≤10:=dk h.sok.ok t.i;unfold aQ.act at p;rw [List.length_append,List.length_map] at p;omega
 have i:=Lib.hid (qz tb ch cap s r t o h.talk.tc A z x);have C:=Lib.hid h;have k:=Lib.hid B;have f:=Lib.hid y;have j:=Lib.hid a;clear h B y z A a x;go_enter_d Tryz.func46,Tryz.ntmps46
 go_wp2_with fail
 rw [j.out];refine i.out.mono ?_;rintro e c ⟨T,R,rfl,b,_⟩;obtain ⟨d,Q,g⟩:=C.out.settle k.out f.out b ((Below.refl _ c).drew);have g:=Lib.hid g;have M:c.drew.cell? ⟨tb,0,none⟩=some (.pointer (some ⟨pp,0,none⟩)):=by rw [Lib.cell_of_heap d];rfl
 have N:c.drew.cell? ⟨tb,1,none⟩=some (.pointer (some ⟨pb,0,none⟩)):=by rw [Lib.cell_of_heap d];rfl
 have O:c.drew.cell? ⟨tb,2,none⟩=some (.int .i64 ((t.i:Int)+1)):=by rw [Lib.cell_of_heap d];rfl
 obtain ⟨I,L,F⟩:=aE (aF b.rg);obtain ⟨H,J,E⟩:=aE (aF b.rf);subst F E;clear d b l m;go_wp2_with fail
 go_region_law (first
  | (go_simp;go_at_call 79;refine g.out.mono ?_;rintro e U ⟨rfl,v⟩;have D:=Lib.hid v;clear v;dsimp only))
 all_goals
  go_wp2_with fail
  go_end0
  exact ⟨rfl,D.out⟩
end
theorem zD (tb:Nat) (b:Bool) (w:World) (h:w.cell? ⟨tb,10,none⟩=some (.bool b)):Calls Tryz.prog 77 #[.pointer (some ⟨tb,0,none⟩)] w fun e a=>e= .returned (.bool b)∧w=a:=by
 go_enter Tryz.func77,Tryz.ntmps77;go_wp2_with fail
 go_ret;exact ⟨rfl,rfl⟩
structure Gg (w:World) (pp cap:Nat) (host frm body sent:List UInt8) (t:aQ):Prop where
 hh:w.cell? ⟨pp,0,none⟩=some (.string (bs host))
 hl:host.length≤1000
 fl:frm.length≤1000
 sl:sent.length≤10000000000000
 dots:Calls Tryz.prog 130 #[.string (bs body)] w fun e w'=>e= .returned (.string (bs sent))∧Below w.heap.size w w'
 names:∀x∈t.una,x.2.length≤1000
 room:t.came.length+t.una.length≤cap∧t.came.length+t.wil.length≤cap
 nu:t.una.length≤1000∧t.wil.length≤999
 una:t.said=3→t.una≠[]
section
variable {w:World} {tb ch pp pb:Nat} {va vu vl:Value} {frm body:List UInt8} {cap:Nat} {t:aQ}
theorem J1 (h:bR w tb ch pp pb va vu vl frm body cap false t) (b c:List UInt8) (d:Gg w pp cap b frm body c t) (r:t.said < 6) (f:Nat) (A:f≤100000):
  Calls Tryz.prog 57 #[.pointer (some ⟨tb,0,none⟩),.int .i64 (f:Int)] w (fQ tb ch pp pb va vl frm body cap w (t.hear b frm c (f / 100))):=by
 have y:w.cell? ⟨tb,6,none⟩=some (.int .i64 (t.said:Int)):=h.cell 6;obtain ⟨a,u⟩:∃a:Nat,f / 100=a:=⟨_,rfl⟩;have B:Int.tdiv (f:Int) 100=(a:Int):=by rw [←u];rfl
 have z:IntKind.i64.wrap (a:Int)=(a:Int):=by rw [IntKind.wrap_i64];omega
 rw [u];have v:t.said=0∨t.said=1∨t.said=2∨t.said=3∨t.said=4∨t.said=5:=by omega
 have k:Hid (t.said=0→_):=Lib.hid (fun e=>qN h b c d.hh d.hl e a);have l:Hid (t.said=1→_):=Lib.hid (fun e=>wH h b c d.fl e a);have m:Hid (t.said=2→_):=Lib.hid (fun e=>ui h b c d.names d.nu.1 (by have:=d.nu.2;omega) d.room.1 e a);have n:Hid (t.said=3→_):=Lib.hid (fun e=>pP h b c d.names d.nu.1 d.nu.2 d.room.1 e (d.una e) a);have o:Hid (t.said=4→_):=Lib.hid (fun e=>y9 h b c (by have:=d.nu.2;omega) d.room.2 e d.sl d.dots a);have p:Hid (t.said=5→_):=Lib.hid (fun e=>yZ h b c (by have:=d.nu.2;omega) d.room.2 e a);obtain ⟨X,x⟩:∃X,t.hear b frm c a=X:=⟨_,rfl⟩;rw [x] at k l m n o p ⊢;clear h d u x
 rcases v with e | e | e | e | e | e
 all_goals
  have q:=Lib.hid e;rw [e] at y
 ·have i:=Lib.hid (k.out q.out);clear k l m n o p e r;go_enter_defers Tryz.func57,Tryz.ntmps57
  go_wp2_with fail
  refine i.out.mono ?_;rintro e s ⟨rfl,g⟩;have j:=Lib.hid g;clear g;go_wp2_with fail
  exact ⟨.string (bs X.2),by simp [results,Tryz.results57,go_sem],rfl,j.out⟩
 ·have i:=Lib.hid (l.out q.out);clear k l m n o p e r;go_enter_defers Tryz.func57,Tryz.ntmps57
  go_wp2_with fail
  refine i.out.mono ?_;rintro e s ⟨rfl,g⟩;have j:=Lib.hid g;clear g;go_wp2_with fail
  exact ⟨.string (bs X.2),by simp [results,Tryz.results57,go_sem],rfl,j.out⟩
 ·have i:=Lib.hid (m.out q.out);clear k l m n o p e r;go_enter_defers Tryz.func57,Tryz.ntmps57
  go_wp2_with fail
  refine i.out.mono ?_;rintro e s ⟨rfl,g⟩;have j:=Lib.hid g;clear g;go_wp2_with fail
  exact ⟨.string (bs X.2),by simp [results,Tryz.results57,go_sem],rfl,j.out⟩
 ·have i:=Lib.hid (n.out q.out);clear k l m n o p e r;go_enter_defers Tryz.func57,Tryz.ntmps57
  go_wp2_with fail
  refine i.out.mono ?_;rintro e s ⟨rfl,g⟩;have j:=Lib.hid g;clear g;go_wp2_with fail
  exact ⟨.string (bs X.2),by simp [results,Tryz.results57,go_sem],rfl,j.out⟩
 ·have i:=Lib.hid (o.out q.out);clear k l m n o p e r;go_enter_defers Tryz.func57,Tryz.ntmps57
  go_wp2_with fail
  refine i.out.mono ?_;rintro e s ⟨rfl,g⟩;have j:=Lib.hid g;clear g;go_wp2_with fail
  exact ⟨.string (bs X.2),by simp [results,Tryz.results57,go_sem],rfl,j.out⟩
 ·have i:=Lib.hid (p.out q.out);clear k l m n o p e r;go_enter_defers Tryz.func57,Tryz.ntmps57
  go_wp2_with fail
  refine i.out.mono ?_;rintro e s ⟨rfl,g⟩;have j:=Lib.hid g;clear g;go_wp2_with fail
  exact ⟨.string (bs X.2),by simp [results,Tryz.results57,go_sem],rfl,j.out⟩
theorem GX [K:Kn] {d:Nat} {q:Nat→Nat} {g:Value} {S:aa} {b:List UInt8} {i:List Int} {m:Value} {n:Int} (h:oi w tb ch pp pb d q g va vu vl frm body cap S b t i m n) (c:t.said=6) (a:Nat) (p:a≤100000):
  Calls Tryz.prog 57 #[.pointer (some ⟨tb,0,none⟩),.int .i64 (a:Int)] w fun e o=>e= .returned (.string ⟨#[]⟩)∧lD tb ch pp pb d q g va vu vl frm body S b t i w o:=by
 have k:w.cell? ⟨tb,6,none⟩=some (.int .i64 (t.said:Int)):=h.talk.cell 6;rw [c] at k;have j:=Lib.hid (fun u=>FZ u h);clear h c;go_enter_defers Tryz.func57,Tryz.ntmps57
 go_wp2_with fail
 refine leaves_cons (f:=46) (args:=#[.pointer (some ⟨tb,0,none⟩)]) (by simp) (by simp [go_sem]) ?_;refine (j.out .returning).mono ?_;rintro e u' r ⟨rfl,rfl,l⟩;exact ⟨.string ⟨#[]⟩,by simp [results,Tryz.results57,go_sem],rfl,l⟩
end
section
variable {E:Nat→Prop} {pp pb mb:Nat} {c:bX} {w w':World} {q:Nat→Nat} {vr:Value} {S:aa} {recs:List UInt8} {vs:Value} {l:List (Option eH)}
theorem bQ.retalk [K:Kn] (h:bQ E pp pb mb c w q vr S recs vs l) (v:Value):@bQ (Kn.mk K.D0 K.n0 v) E pp pb mb c (w.setCell ⟨pp,11,none⟩ v) q vr S recs vs l∧(∀k,ee (w.setCell ⟨pp,11,none⟩ v) pb mb q vr S vs l k→ee w pb mb q vr S vs l k)∧aH (fun k=>k=pp) w (w.setCell ⟨pp,11,none⟩ v):=by
 have s:aL pp w (w.setCell ⟨pp,11,none⟩ v):=(aL.refl _ _).setCell _;have a:aH (fun k=>k=pp) w (w.setCell ⟨pp,11,none⟩ v):=aH.same s;obtain ⟨H,I,J,L,b,f⟩:=h.post.set;obtain ⟨D,F,G⟩:=b.blk;obtain ⟨C,d,t,u,A,M⟩:=h.post.blk;have m:D=C:=by rw [F] at d;injection d with d;injection d
 subst m;have p:=heap_setCell_same w pp 11 _ _ v d;obtain ⟨i,j⟩:=h.post.bag.chg a (fun k e x=>h.post.eb pp h.post.epp (by rw [←x];exact e));have B:∀k,vs.ownBlock=some k→¬k=pp:=fun k e x=>(h.post.sd k e).1 (by rw [x];exact h.post.epp);refine ⟨@bQ.mk (Kn.mk K.D0 K.n0 v) _ _ _ _ _ _ _ _ _ _ _ _ (@dR.mk (Kn.mk K.D0 K.n0 v) _ _ _ _ _ _ _ _ _ _ _ _ ⟨H,I,J,L,⟨⟨_,p,?_⟩,⟨b.rows.1.chg a (fun g e=>(f g (.inl e)).2),b.rows.2.1.chg a (fun g e=>(f g (.inr (.inl e))).2),b.rows.2.2.1.chg a (fun g e=>(f g (.inr (.inr (.inl e)))).2),b.rows.2.2.2.chg a (fun g e=>(f g (.inr (.inr (.inr e)))).2)⟩,b.may⟩,f⟩ (h.post.glo.chg a (fun k e x=>h.post.gpp (by rw [←x];exact e))) h.post.egl h.post.gpp h.post.epp (fun k e=>Nat.lt_of_lt_of_le (h.post.lt k e) a.size) ⟨_,p,by simpa using t,by rw [Array.getElem?_setIfInBounds_ne (by decide)];exact u,by rw [Array.getElem?_setIfInBounds_ne (by decide)];exact A,by rw [Array.getElem?_setIfInBounds_self_of_lt (by omega)];rfl⟩ (@fv.mk (Kn.mk K.D0 K.n0 v) _ _ _ _ _ _ _ i.inn i.row i.due i.kn) (bC h.post.row a B) (fun k e x=>h.post.eb k e (j k x)) (fun g e=>⟨(h.post.sd g e).1,fun x=>(h.post.sd g e).2 (j g x)⟩)) (fun n x e=>?_) h.apart h.len h.keep,fun k e=>e.imp (j k) id,a⟩
 ·rw [Array.toList_setIfInBounds,List.take_set_of_le (by decide)];exact G
 ·have o:=h.ok n x e;have r:∀k,x.own k→¬k=pp:=fun k y z=>o.fe k y (by rw [z];exact h.post.epp);exact rp.mk (o.ses.chg a (fun k y=>r k (.inl y))) (bC o.row a (fun k y=>r k (.inr y))) o.inv o.fe (fun k y z=>o.fb k y (j k z)) o.fs o.fw
structure iJ where
 tb:Nat
 ch:Nat
 va:Value
 vu:Value
 vl:Value
 t:aQ
def iJ.own (x:iJ) (k:Nat):Prop:=lA x.tb x.ch x.va x.vl k
structure hY [K:Kn] (E:Nat→Prop) (pp pb mb:Nat) (w:World) (q:Nat→Nat) (vr:Value) (S:aa) (vs:Value) (l:List (Option eH)) (x:iJ):Prop where
 tk:K.tk= .pointer (some ⟨x.tb,0,none⟩)
 at_:bR w x.tb x.ch pp pb x.va x.vu x.vl (S.mailOf x.t.i).frm (S.mailOf x.t.i).body (S.stayOf x.t.i).length false x.t
 live:x.t.i∈S.live
 ok:dC (S.stayOf x.t.i) x.t
 due:(bV S x.t.i).1≤S.time
 fe:∀k,x.own k→¬E k
 fm:∀k,x.own k→¬ee w pb mb q vr S vs l k
def mJ [Kn] (S:aa):Prop:=∀i∈S.live,0≤(bV S i).2∧(bV S i).2≤(bV S i).1∧(bV S i).1≤10000000000
theorem hY.endIn [K:Kn] {x:iJ} (a:bQ E pp pb mb c w q vr S recs vs l) (h:hY E pp pb mb w q vr S vs l x) (p:mJ S):∃o n,oi w x.tb x.ch pp pb mb q vr x.va x.vu x.vl (S.mailOf x.t.i).frm (S.mailOf x.t.i).body (S.stayOf x.t.i).length S recs x.t c.waits o n:=by
 obtain ⟨t,u,v,o,j,s⟩:=a.post.set;obtain ⟨m,b⟩:=a.post.glo.len;have f:=p _ h.live;have d:∀k,E k→k < w.heap.size∧¬an w pb mb q vr S k∧¬lA x.tb x.ch x.va x.vl k:=fun k e=>⟨a.post.lt k e,a.post.eb k e,fun y=>h.fe k y e⟩
 have i:1≤c.waits.length∧c.waits.length≤100∧∀x∈c.waits,1≤x∧x≤1000000000:=by
  have b:=j.may;unfold ij at b;simp only [Bool.and_eq_true] at b;obtain ⟨⟨⟨_,g⟩,_⟩,_⟩:=b;unfold kI cF at g;simp only [Bool.and_eq_true,decide_eq_true_eq,List.all_eq_true] at g;refine ⟨by omega,by omega,fun x r=>?_⟩
  have:=g.2 x r;simpa using this
 refine ⟨o,m,⟨h.at_,a.post.bag,a.sok,h.live,h.ok,⟨f.1,by omega⟩,j.cell 6 (by decide),j.rows.2.2.2,i,b,fun k e x=>h.fm k e (.inl x),fun k e=>?_⟩⟩
 rcases e with e | e | e
 ·rw [e];exact d pp a.post.epp
 ·rw [e];exact d _ (a.post.egl _ (.inl rfl))
 ·exact d k (s k (.inr (.inr (.inr e)))).1
end
theorem lM (pp d:Nat) (b:Bool) (u:FrameMode) (w:World) (i:w.cell? ⟨pp,11,none⟩=some (.pointer (some ⟨d,0,none⟩))) (h:w.frozen? ⟨pp,11,none⟩=false) (a:w.cell? ⟨d,10,none⟩=some (.bool b)):
  CallsD Tryz.prog 45 #[.pointer (some ⟨pp,0,none⟩)] u w fun e u' f=>u'=u∧e= .returned (.tuple #[])∧f=if b then w.setCell ⟨pp,11,none⟩ (.pointer none) else w:=by
 have g:=Lib.hid (zD d b w a);go_enter_d Tryz.func45,Tryz.ntmps45
 go_wp2_with fail
 refine g.out.mono ?_;rintro e f ⟨rfl,rfl⟩
 cases b with
 | true=>
  go_wp2_with fail
  go_end0
  exact ⟨rfl,rfl⟩
 | false=>
  go_wp2_with fail
  go_end0
  exact ⟨rfl,rfl⟩
section
variable {E:Nat→Prop} {pp pb mb:Nat} {c:bX} {w:World} {q:Nat→Nat} {vr:Value} {S:aa} {recs:List UInt8} {vs:Value} {l:List (Option eH)}
theorem oi.left [K:Kn] {r g:Nat} {u z v:Value} {f a:List UInt8} {e:Nat} {t:aQ} {A:List Int} {s:Value} {n:Int} (h:oi w r g pp pb mb q vr u z v f a e S recs t A s n):∃y,Left (S,recs) y t.i (t.took true)∧Left y (cV S recs t) t.i (t.took false):=by
 have d:∀b,∀p∈t.took b,p∈(S.stayOf t.i).map (·.1):=fun b p k=>h.ok.sub p (by unfold aQ.act;exact List.mem_append.2 (.inr (ob k)));have B:(S.stayOf t.i).length≤10:=dk h.sok.ok t.i;obtain ⟨_,m,_,o,_⟩:=kS (x:=(S,recs)) (gs:=t.took true) (fs:=t.took false) h.sok h.live (by have:=kF h.ok true;omega) (by have:=kF h.ok false;omega) (jg (iu h.ok _)) (d _) (d _) (fun p i j=>mn h.ok i j);exact ⟨_,m,o⟩
theorem bQ.c11 [K:Kn] (h:bQ E pp pb mb c w q vr S recs vs l):w.cell? ⟨pp,11,none⟩=some K.tk∧w.frozen? ⟨pp,11,none⟩=false:=⟨h.post.cell11,h.post.froz 11⟩
def tv [K:Kn] (E:Nat→Prop) (pp pb mb:Nat) (c:bX) (w:World) (q:Nat→Nat) (vr:Value) (S:aa) (recs:List UInt8) (vs:Value) (l:List (Option eH)) (x:iJ) (w':World):Prop:=
 ∃q' vr',@bQ (Kn.mk (iQ K (cV S recs x.t).1 x.t.i (nt S x.t c.waits)).D0 (cV S recs x.t).1.items.length (.pointer none)) E pp pb mb c w' q' vr' (cV S recs x.t).1 (cV S recs x.t).2 vs l∧(∀k,ee w' pb mb q' vr' (cV S recs x.t).1 vs l k→ee w pb mb q vr S vs l k∨w.heap.size≤k)∧aH (fun k=>k=pp∨x.own k∨ee w pb mb q vr S vs l k) w w'
theorem tv.of [K:Kn] {x:iJ} {w1:World} (a:bQ E pp pb mb c w q vr S recs vs l) (h:hY E pp pb mb w q vr S vs l x) (m:mJ S) (o:lD x.tb x.ch pp pb mb q vr x.va x.vu x.vl (S.mailOf x.t.i).frm (S.mailOf x.t.i).body S recs x.t c.waits w w1):
  w1.cell? ⟨pp,11,none⟩=some (.pointer (some ⟨x.tb,0,none⟩))∧w1.frozen? ⟨pp,11,none⟩=false∧w1.cell? ⟨x.tb,10,none⟩=some (.bool true)∧tv E pp pb mb c w q vr S recs vs l x (w1.setCell ⟨pp,11,none⟩ (.pointer none)):=by
 obtain ⟨F,n,p⟩:=h.endIn a m;obtain ⟨y,_,r⟩:=p.left;obtain ⟨D,⟨u,f,j,s⟩,g⟩:=o;obtain ⟨i,t⟩:=bQ.bagged (D':=(iQ K (cV S recs x.t).1 x.t.i (nt S x.t c.waits)).D0) (n':=(cV S recs x.t).1.items.length) a j g (fun k e z=>z.elim (fun z=>h.fe k z e) (fun z=>a.post.eb k e z)) (fun k e z=>z.elim (fun z=>h.fm k z (.inr (.inl e))) (fun z=>(a.post.sd k e).2 z)) (fun n y e k z v=>v.elim (fun v=>h.fm k v (.inr (.inr ⟨n,y,e,z⟩))) (fun v=>(a.ok n y e).fb k z v)) s r.ok;obtain ⟨b,d⟩:=bQ.c11 (K:=(Kn.mk (iQ K (cV S recs x.t).1 x.t.i (nt S x.t c.waits)).D0 (cV S recs x.t).1.items.length K.tk)) i;obtain ⟨A,B,C⟩:=bQ.retalk (K:=(Kn.mk (iQ K (cV S recs x.t).1 x.t.i (nt S x.t c.waits)).D0 (cV S recs x.t).1.items.length K.tk)) i (.pointer none);refine ⟨b.trans (by show some K.tk=_;rw [h.tk]),d,by rw [Lib.cell_of_heap D];rfl,u,f,A,fun k e=>t k (B k e),(g.mono (fun k _ e=>e.elim (fun e=> .inr (.inl e)) (fun e=> .inr (.inr (.inl e))))).trans C (fun k _ e=> .inl e)⟩
theorem AJ [K:Kn] (h:bQ E pp pb mb c w q vr S recs vs l) (b:K.tk= .pointer none):
  Calls Tryz.prog 21 #[.pointer (some ⟨pp,0,none⟩)] w fun e d=>e= .returned (.int .i64 5)∧w=d:=by
 have a:=h.post.cell11;rw [b] at a;clear h;go_enter_defers Tryz.func21,Tryz.ntmps21
 go_wp2_with fail
 exact ⟨.int .i64 5,by simp [results,Tryz.results21,go_sem],rfl,rfl⟩
theorem J0 [K:Kn] {x:iJ} (d:bQ E pp pb mb c w q vr S recs vs l) (h:hY E pp pb mb w q vr S vs l x) (i:mJ S):
  Calls Tryz.prog 21 #[.pointer (some ⟨pp,0,none⟩)] w fun e y=>e= .returned (.int .i64 0)∧tv E pp pb mb c w q vr S recs vs l x y:=by
 have g:=d.post.cell11;rw [h.tk] at g;obtain ⟨z,n,k⟩:=h.endIn d i;have o:=Lib.hid (BS k);have r:Hid (∀a,lD x.tb x.ch pp pb mb q vr x.va x.vu x.vl (S.mailOf x.t.i).frm (S.mailOf x.t.i).body S recs x.t c.waits w a→_):=Lib.hid (fun a b=>tv.of d h i b);clear k h d i;go_enter_defers Tryz.func21,Tryz.ntmps21
 go_wp2_with fail
 refine o.out.mono ?_;rintro e a ⟨rfl,b⟩;obtain ⟨s,t,v,j⟩:=r.out a b;have m:=Lib.hid j;have p:=Lib.hid (fun u=>lM pp x.tb true u a s t v);clear b j;go_wp2_with fail
 refine leaves_cons (f:=45) (args:=#[.pointer (some ⟨pp,0,none⟩)]) (by simp) (by simp [go_sem]) ?_;refine (p.out .returning).mono ?_;rintro e u' A ⟨rfl,rfl,rfl⟩;exact ⟨.int .i64 0,by simp [results,Tryz.results21,go_sem],rfl,m.out⟩
end
section
variable {E:Nat→Prop} {pp pb mb:Nat} {c:bX} {w:World} {q:Nat→Nat} {vr:Value} {S:aa} {recs:List UInt8} {vs:Value} {l:List (Option eH)}
theorem wq [K:Kn] (h:bQ E pp pb mb c w q vr S recs vs l) (d:K.tk= .pointer none) (a:Int):
  Calls Tryz.prog 33 #[.pointer (some ⟨pp,0,none⟩),.int .i64 a] w fun e f=>e= .returned (.tuple #[.string ⟨#[]⟩,.int .i64 5])∧w=f:=by
 have b:=h.post.cell11;rw [d] at b;clear h;go_enter_defers Tryz.func33,Tryz.ntmps33
 go_wp2_with fail
 exact ⟨.tuple #[.string ⟨#[]⟩,.int .i64 5],by simp [results,Tryz.results33,go_sem],rfl,rfl⟩
theorem yy [K:Kn] {x:iJ} (g:bQ E pp pb mb c w q vr S recs vs l) (h:hY E pp pb mb w q vr S vs l x) (j:mJ S) (A:x.t.said=6) (a:Nat) (z:200≤a∧a≤599):
  Calls Tryz.prog 33 #[.pointer (some ⟨pp,0,none⟩),.int .i64 (a:Int)] w fun e B=>e= .returned (.tuple #[.string ⟨#[]⟩,.int .i64 0])∧tv E pp pb mb c w q vr S recs vs l x B:=by
 have i:=g.post.cell11;rw [h.tk] at i;obtain ⟨F,n,m⟩:=h.endIn g j;have p:=Lib.hid (GX m A a (by omega));have s:Hid (∀b,lD x.tb x.ch pp pb mb q vr x.va x.vu x.vl (S.mailOf x.t.i).frm (S.mailOf x.t.i).body S recs x.t c.waits w b→_):=Lib.hid (fun b d=>tv.of g h j d);have C:¬(a:Int) < 200:=by omega
 have D:¬(599:Int) < (a:Int):=by omega
 clear m h g j z;go_enter_defers Tryz.func33,Tryz.ntmps33
 go_wp2_with fail
 refine p.out.mono ?_;rintro e b ⟨rfl,d⟩;obtain ⟨t,v,y,k⟩:=s.out b d;have o:=Lib.hid k;have r:=Lib.hid (fun u=>lM pp x.tb true u b t v y);clear d k;go_wp2_with fail
 refine leaves_cons (f:=45) (args:=#[.pointer (some ⟨pp,0,none⟩)]) (by simp) (by simp [go_sem]) ?_;refine (r.out .returning).mono ?_;rintro e u' G ⟨rfl,rfl,rfl⟩;exact ⟨.tuple #[.string ⟨#[]⟩,.int .i64 0],by simp [results,Tryz.results33,go_sem],rfl,o.out⟩
def IY [K:Kn] (E:Nat→Prop) (pp pb mb:Nat) (c:bX) (w:World) (q:Nat→Nat) (vr:Value) (S:aa) (recs:List UInt8) (vs:Value) (l:List (Option eH)) (x:iJ) (t':aQ) (w':World):Prop:=
 ∃x':iJ,x'.t=t'∧bQ E pp pb mb c w' q vr S recs vs l∧hY E pp pb mb w' q vr S vs l x'∧(∀k,ee w' pb mb q vr S vs l k→ee w pb mb q vr S vs l k)∧(∀k,x'.own k→x.own k∨w.heap.size≤k)∧aH x.own w w'
theorem hY.hearOk [K:Kn] {x:iJ} (a:bQ E pp pb mb c w q vr S recs vs l) (h:hY E pp pb mb w q vr S vs l x) (i:x.t.said≠6):Gg w pp (S.stayOf x.t.i).length (cQ c) (S.mailOf x.t.i).frm (S.mailOf x.t.i).body (mD (S.mailOf x.t.i).body) x.t:=by
 obtain ⟨r,s,t,u,e,p⟩:=a.post.set;obtain ⟨m,f⟩:=a.post.glo.len;have d:=bq h.live;have b:dQ (S.mailOf x.t.i):=by rw [cd d];exact (a.keep.2.2.sz _ (List.getElem_mem d)).1
 have n:=AN e.may;have g:=h.ok.room;rw [lG i,List.length_append,List.length_map,List.length_map,List.length_append] at g;have o:=dk a.keep.2.2 x.t.i;refine ⟨by rw [sT];exact e.cell 0 (by decide),by omega,by have:=b.2.2.1;omega,BH _ b.2.2.2.2.2,zH _ m w f b.2.2.2.2.2,fun y k=>?_,⟨by omega,by omega⟩,⟨by omega,by omega⟩,h.ok.una⟩
 have:=h.ok.mem y (List.mem_append.2 (.inl k));unfold aa.stayOf stay at this;obtain ⟨j,_,rfl⟩:=List.mem_map.1 this;have:=nQ b.2.2.2.2.1 j;show ((S.mailOf x.t.i).tos.getD j []).length≤1000;omega
theorem IY.of [K:Kn] {x:iJ} {y:aQ×List UInt8} {e:Ending} {w1:World} (j:bQ E pp pb mb c w q vr S recs vs l) (h:hY E pp pb mb w q vr S vs l x) (d:y.1.i=x.t.i) (i:dC (S.stayOf x.t.i) y.1) (r:fQ x.tb x.ch pp pb x.va x.vl (S.mailOf x.t.i).frm (S.mailOf x.t.i).body (S.stayOf x.t.i).length w y e w1):
  w1.cell? ⟨pp,11,none⟩=some (.pointer (some ⟨x.tb,0,none⟩))∧w1.frozen? ⟨pp,11,none⟩=false∧w1.cell? ⟨x.tb,10,none⟩=some (.bool false)∧IY E pp pb mb c w q vr S recs vs l x y.1 w1:=by
 obtain ⟨_,b,a,p,n,s⟩:=r;obtain ⟨o,m⟩:=j.chg n (fun k e z=>h.fe k z e) (fun k e z=>h.fm k z e);obtain ⟨f,g⟩:=o.c11
 have own:∀k,lA x.tb x.ch x.va a k→x.own k∨w.heap.size≤k:=fun k e=>by
  rcases e with e | e | e | e
  ·exact .inl (.inl e)
  ·exact .inl (.inr (.inl e))
  ·exact .inl (.inr (.inr (.inl e)))
  ·exact (s k e).imp (fun e=> .inr (.inr (.inr e))) id
 refine ⟨f.trans (by rw [h.tk]),g,p.cell 10,⟨x.tb,x.ch,x.va,b,a,y.1⟩,rfl,o,⟨h.tk,?_,?_,?_,?_,fun k e z=>(own k e).elim (fun e=>h.fe k e z) (fun e=>by have:=j.post.lt k z;omega),fun k e z=>(own k e).elim (fun e=>h.fm k e (m k z)) (fun e=>by have:=j.olt (m k z);omega)⟩,m,own,n⟩
 ·show bR w1 x.tb x.ch pp pb x.va b a (S.mailOf y.1.i).frm (S.mailOf y.1.i).body (S.stayOf y.1.i).length false y.1;rw [d];exact p
 ·show y.1.i∈S.live;rw [d];exact h.live
 ·show dC (S.stayOf y.1.i) y.1;rw [d];exact i
 ·show (bV S y.1.i).1≤S.time;rw [d];exact h.due
theorem Kh (t:aQ):t.ask.1.i=t.i:=by
 unfold aQ.ask
 split
 ·rfl
 ·split <;> rfl
theorem GY (t:aQ) (b e d:List UInt8) (a:Nat):(t.hear b e d a).1.i=t.i:=by
 unfold aQ.hear
 repeat' split
 all_goals first | rfl | exact Kh _
theorem Gp [K:Kn] {x:iJ} (g:bQ E pp pb mb c w q vr S recs vs l) (h:hY E pp pb mb w q vr S vs l x) (j:x.t.said≠6) (a:Nat) (y:200≤a∧a≤599):
  Calls Tryz.prog 33 #[.pointer (some ⟨pp,0,none⟩),.int .i64 (a:Int)] w fun e z=>e= .returned (.tuple #[.string (bs (x.t.hear (cQ c) (S.mailOf x.t.i).frm (mD (S.mailOf x.t.i).body) (a / 100)).2),.int .i64 0])∧IY E pp pb mb c w q vr S recs vs l x (x.t.hear (cQ c) (S.mailOf x.t.i).frm (mD (S.mailOf x.t.i).body) (a / 100)).1 z:=by
 have i:=g.post.cell11;rw [h.tk] at i;have k:=Lib.hid (J1 h.at_ (cQ c) (mD (S.mailOf x.t.i).body) (h.hearOk g j) (by have:=h.ok.said;omega) a (by omega));have m:Hid (∀e b,fQ x.tb x.ch pp pb x.va x.vl (S.mailOf x.t.i).frm (S.mailOf x.t.i).body (S.stayOf x.t.i).length w (x.t.hear (cQ c) (S.mailOf x.t.i).frm (mD (S.mailOf x.t.i).body) (a / 100)) e b→_):=Lib.hid (fun e b d=>IY.of g h (GY _ _ _ _ _) (Ei h.ok j _ _ _ _) d);obtain ⟨Y,o⟩:∃Y,x.t.hear (cQ c) (S.mailOf x.t.i).frm (mD (S.mailOf x.t.i).body) (a / 100)=Y:=⟨_,rfl⟩;rw [o] at k m ⊢;have A:¬(a:Int) < 200:=by omega
 have B:¬(599:Int) < (a:Int):=by omega
 clear h g j y o;go_enter_defers Tryz.func33,Tryz.ntmps33
 go_wp2_with fail
 refine k.out.mono ?_;intro e b d;obtain ⟨s,t,v,n⟩:=m.out e b d;have p:=Lib.hid n;obtain ⟨rfl,_⟩:=d;have r:=Lib.hid (fun u=>lM pp x.tb false u b s t v);clear n;go_wp2_with fail
 refine leaves_cons (f:=45) (args:=#[.pointer (some ⟨pp,0,none⟩)]) (by simp) (by simp [go_sem]) ?_;refine (r.out .returning).mono ?_;rintro e u' C ⟨rfl,rfl,rfl⟩;exact ⟨.tuple #[.string (bs Y.2),.int .i64 0],by simp [results,Tryz.results33,go_sem],rfl,p.out⟩
end
structure oj (S S':aa):Prop where
 len:S.items.length≤S'.items.length
 time:S'.time=S.time
 mail:∀j,j < S.items.length→S'.mailOf j=S.mailOf j
 stay:∀j,j < S.items.length→S'.stayOf j=S.stayOf j
 new:∀j,S.items.length≤j→j < S'.items.length→(S'.mailOf j).time=S.time
theorem oj.refl (S:aa):oj S S:=⟨Nat.le_refl _,rfl,fun _ _=>rfl,fun _ _=>rfl,fun j a b=>by omega⟩
theorem oj.trans {S S' b:aa} (h:oj S S') (a:oj S' b):oj S b:=
 ⟨Nat.le_trans h.len a.len,a.time.trans h.time,fun j c=>(a.mail j (Nat.lt_of_lt_of_le c h.len)).trans (h.mail j c),fun j c=>(a.stay j (Nat.lt_of_lt_of_le c h.len)).trans (h.stay j c),fun j e f=>by
  by_cases d:j < S'.items.length
  ·rw [a.mail j d];exact h.new j e d
  ·exact (a.new j (by omega) f).trans h.time⟩
theorem oj.plus (S:aa) (m:aX) (b:m.time=S.time):oj S (S.plus m):=
 ⟨by rw [dv];omega,b,fun j a=>je a,fun j a=>jU a,fun j d c=>by
  rw [dv] at c;obtain rfl:j=S.items.length:=by omega
  rw [dN];exact b⟩
theorem lP (c:bX) (s:bG) (S:aa) (a b:List UInt8) (d:Bool):oj S (aO c s S a b d).2.1:=by
 unfold aO
 split
 ·split
  ·unfold dn kz
   split
   ·split
    ·exact oj.refl _
    ·split
     ·exact oj.refl _
     ·split
      ·exact oj.plus S _ rfl
      ·exact oj.refl _
   ·exact oj.refl _
  ·exact oj.refl _
 ·exact oj.refl _
theorem FX (c:bX) (x:bG×aa×List UInt8×List UInt8) (b:UInt8):oj x.2.1 (gQ c x b).2.1:=by
 unfold gQ
 split
 ·exact oj.refl _
 ·split
  ·exact oj.refl _
  ·exact lP _ _ _ _ _ _
theorem xH (c:bX):∀(a:List UInt8) (x:bG×aa×List UInt8×List UInt8),oj x.2.1 (cL c x a).2.1
 | [],_=>oj.refl _
 | b::r,x=>(FX c x b).trans (xH c r (gQ c x b))
section
variable {S S':aa}
theorem oj.due [Kn] (h:oj S S') {i:Nat} (a:i < S.items.length):bV S' i=bV S i:=by unfold bV;rw [h.mail i a]
theorem oj.live (h:oj S S') {i:Nat} (a:i < S.items.length):i∈S'.live ↔ i∈S.live:=by
 rw [jT,jT,h.stay i a];have:=h.len;exact ⟨fun x=>⟨a,x.2⟩,fun x=>⟨by omega,x.2⟩⟩
theorem mJ.kin [Kn] (h:mJ S) (a:oj S S') (f:Kn.n0≤S.items.length) (d:S.time≤1000000000):mJ S':=fun i b=>by
 by_cases c:i < S.items.length
 ·rw [a.due c];exact h i ((a.live c).1 b)
 ·have e:bV S' i=((S.time:Int),0):=by
   unfold bV;rw [if_neg (by omega),a.new i (by omega) (bq b)]
  rw [e];show (0:Int)≤0∧(0:Int)≤(S.time:Int)∧(S.time:Int)≤10000000000;omega
end
section
variable [K:Kn] {E B:Nat→Prop} {pp pb mb:Nat} {w w':World} {q q':Nat→Nat} {vr vr':Value} {S S':aa} {vs vs':Value} {l l':List (Option eH)} {x:iJ}
theorem hY.kin (h:hY E pp pb mb w q vr S vs l x) (a:oj S S') (d:aH B w w') (c:∀k,x.own k→¬B k) (f:∀k,ee w' pb mb q' vr' S' vs' l' k→ee w pb mb q vr S vs l k∨w.heap.size≤k):hY E pp pb mb w' q' vr' S' vs' l' x:=by
 have b:=bq h.live;refine ⟨h.tk,?_,(a.live b).2 h.live,by rw [a.stay _ b];exact h.ok,by rw [a.due b,a.time];exact h.due,h.fe,fun k e z=>(f k z).elim (h.fm k e) (fun z=>by have:=h.at_.lt e;omega)⟩
 rw [a.mail _ b,a.stay _ b];exact h.at_.chg d c
end
section
variable {S S':aa}
theorem iB.live {i:Nat} (h:iB S S') (a:i∈S'.live) (b:i < S.items.length):i∈S.live:=by
 obtain ⟨_,f⟩:=jT.1 a;refine zo fun e=>f ?_;refine List.eq_nil_iff_forall_not_mem.2 fun r d=>?_;have:=h.stay i b r d;rw [e] at this
 cases this
theorem mJ.later [Kn] (h:mJ S) (g:iB S S') (d:S'.Ok) (k:Kn.n0≤S.items.length):mJ S':=fun i f=>by
 by_cases b:i < S.items.length
 ·have e:bV S' i=bV S i:=by unfold bV;rw [g.mail i b]
  rw [e];exact h i (g.live f b)
 ·have a:=bq f;have e:bV S' i=(((S'.mailOf i).time:Int),0):=by unfold bV;rw [if_neg (by omega)]
  have j:dQ (S'.mailOf i):=by rw [cd a];exact (d.sz _ (List.getElem_mem a)).1
  have:=j.2.1;rw [e];show (0:Int)≤0∧(0:Int)≤((S'.mailOf i).time:Int)∧((S'.mailOf i).time:Int)≤10000000000;omega
theorem JD {a:List Int} (g:1≤a.length) (d:∀x∈a,1≤x∧x≤1000000000) {f:Int} (e:0≤f):1≤kH a f∧kH a f≤1000000000:=by
 unfold kH;have b:(if (a.length:Int) - 1 < f then a.length - 1 else f.toNat) < a.length:=by split <;> omega
 rw [List.getD_eq_getElem?_getD,List.getElem?_eq_getElem b];exact d _ (List.getElem_mem b)
end
section
variable [K:Kn] {E:Nat→Prop} {pp pb mb:Nat} {c:bX} {w:World} {q:Nat→Nat} {vr:Value} {S:aa} {recs:List UInt8} {vs:Value} {l:List (Option eH)} {x:iJ}
theorem o9 (f:bQ E pp pb mb c w q vr S recs vs l) (h:hY E pp pb mb w q vr S vs l x) (d:mJ S):iB S (cV S recs x.t).1∧oK (cV S recs x.t)∧(cV S recs x.t).1.time=S.time:=by
 obtain ⟨g,n,e⟩:=h.endIn f d;obtain ⟨y,b,a⟩:=e.left;exact ⟨b.later.trans a.later,a.ok,a.aft.time.trans b.aft.time⟩
theorem FD (d:bQ E pp pb mb c w q vr S recs vs l) (h:hY E pp pb mb w q vr S vs l x) (b:mJ S) (v:Value):@mJ (Kn.mk (iQ K (cV S recs x.t).1 x.t.i (nt S x.t c.waits)).D0 (cV S recs x.t).1.items.length v) (cV S recs x.t).1:=by
 obtain ⟨m,o,_⟩:=o9 d h b;obtain ⟨t,n,j⟩:=h.endIn d b;have f:=b.later m o.ok d.post.bag.kn;intro i a;have e:@bV (Kn.mk (iQ K (cV S recs x.t).1 x.t.i (nt S x.t c.waits)).D0 (cV S recs x.t).1.items.length v) (cV S recs x.t).1 i=if i=x.t.i then nt S x.t c.waits else bV (cV S recs x.t).1 i:=if_pos (bq a);rw [e]
 by_cases g:i=x.t.i
 ·rw [if_pos g];have k:=b _ h.live;have p:=h.due;have r:=JD j.wb.1 j.wb.2.2 k.1;have s:=d.keep.1;show 0≤(bV S x.t.i).2+1∧(bV S x.t.i).2+1≤(S.time:Int)+kH c.waits (bV S x.t.i).2∧(S.time:Int)+kH c.waits (bV S x.t.i).2≤10000000000;omega
 ·rw [if_neg g];exact f i a
theorem yk (b:bQ E pp pb mb c w q vr S recs vs l) (f:mJ S) (T:Nat) (e:T≤1000000000):iB S (dw c.life (⟨S.items,T⟩,recs) S.live).1∧mJ (dw c.life (⟨S.items,T⟩,recs) S.live).1∧oK (dw c.life (⟨S.items,T⟩,recs) S.live)∧(dw c.life (⟨S.items,T⟩,recs) S.live).1.time=T:=by
 have a:=lB (x:=((⟨S.items,T⟩:aa),recs)) ⟨b.sok.ok.time T,b.sok.led,e⟩ c.life (l:=S.live) (fun i a=>a) (gJ S) S.live.length (Nat.le_refl _);rw [List.take_length] at a;have d:=(CY S T).trans a.2.2.2;exact ⟨d,f.later d a.1.ok b.post.bag.kn,a.1,a.2.2.1⟩
end
end Go.Proofs.YtofpegbpgkkgkaaGreatDoor
