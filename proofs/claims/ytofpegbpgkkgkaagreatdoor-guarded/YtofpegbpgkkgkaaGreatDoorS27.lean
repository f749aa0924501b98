import Derived.Test.YtofpegbpgkkgkaaGreatDoorS26
import Derived.Conc.SmallLaws
namespace Go.Proofs.YtofpegbpgkkgkaaGreatDoor
set_option maxHeartbeats 8000000
set_option maxRecDepth 1000000
open Go.RowKit
section
variable {w w':World} {tb ch pp pb:Nat} {va vu vl:Value} {frm body:List UInt8} {cap:Nat} {t:aP}
theorem uJ (t:aP) (l:List (Nat×List UInt8)) (b:Bool):t.came.map cR++gf l b=(t.leave l b).came.map cR:=by
 unfold aP.leave gf;rw [List.map_append,List.map_map];rfl
theorem bM.sent (h:bM w tb ch pp pb va vu vl frm body cap false t) (l:List (Nat×List UInt8)) (b:Bool) (c:aF (fun j=>j=ch) w w') (f:∃s r,w'.heap[ch]? =some (.chan cap (t.came.map cR++gf l b).toArray false s r false)):bM w' tb ch pp pb va vu vl frm body cap false (t.leave l b):=by
 obtain ⟨s,r,e⟩:=f;rw [uJ] at e;exact ⟨c.some_ h.blk h.tc,⟨s,r,e⟩,h.una.chg c (fun g a d=>(h.at_ g (h.ua g a)).2.1 d),br h.wil c (fun g a d=>(h.lb a).2.1 d),h.ua,h.al,fun k a=>⟨(h.at_ k a).1,(h.at_ k a).2.1,Nat.lt_of_lt_of_le (h.at_ k a).2.2 c.size⟩⟩
theorem oQ (h:bM w tb ch pp pb va vu vl frm body cap false t) (v:Value) (l:List (Nat×List UInt8)) (g:aZ w v l.length 2 (aL l)) (i:v.ownBlock≠some ch) (f:l.length≤1000) (a:t.came.length+l.length≤cap):
  Calls Tryz.prog 129 #[.pointer (some ⟨tb,0,none⟩),v] w fun e w'=>e= .returned (.tuple #[])∧bM w' tb ch pp pb va vu vl frm body cap false (t.leave l false)∧aF (kK tb ch va vl) w w':=by
 obtain ⟨s,r,d⟩:=h.chan;refine (A8 tb ch cap v l w s r (t.came.map cR) f g i h.tc (h.cell 9) d (by rw [List.length_map];exact a)).mono ?_;rintro e w' ⟨rfl,b,c⟩;exact ⟨rfl,h.sent l false b c,b.mono (fun k _ e=> .inr (.inl e))⟩
theorem Ir (h:bM w tb ch pp pb va vu vl frm body cap false t) (v:Value) (l:List (Nat×List UInt8)) (g:aZ w v l.length 2 (aL l)) (i:v.ownBlock≠some ch) (f:l.length≤1000) (a:t.came.length+l.length≤cap):
  Calls Tryz.prog 131 #[.pointer (some ⟨tb,0,none⟩),v] w fun e w'=>e= .returned (.tuple #[])∧bM w' tb ch pp pb va vu vl frm body cap false (t.leave l true)∧aF (kK tb ch va vl) w w':=by
 obtain ⟨s,r,d⟩:=h.chan;refine (Fo tb ch cap v l w s r (t.came.map cR) f g i h.tc (h.cell 9) d (by rw [List.length_map];exact a)).mono ?_;rintro e w' ⟨rfl,b,c⟩;exact ⟨rfl,h.sent l true b c,b.mono (fun k _ e=> .inr (.inl e))⟩
theorem fF.after {x:aP×List UInt8} {d:World} {e:Ending} (c:aF (kK tb ch va vl) w d) (h:fF tb ch pp pb va vl frm body cap d x e w'):fF tb ch pp pb va vl frm body cap w x e w':=by
 obtain ⟨f,b,a,g,i,j⟩:=h;exact ⟨f,b,a,g,c.trans i (fun _ _ e=>e),fun k e=>(j k e).imp id (fun e=>Nat.le_trans c.size e)⟩
theorem pO (h:bM w tb ch pp pb va vu vl frm body cap false t) (b c:List UInt8) (q:w.cell? ⟨pp,0,none⟩=some (.string (bs b))) (r:b.length≤1000) (i:t.said=0) (a:Nat):
  Calls Tryz.prog 87 #[.pointer (some ⟨tb,0,none⟩),.int .i64 (a:Int)] w (fF tb ch pp pb va vl frm body cap w (t.hear b frm c a)):=by
 by_cases g:a=2
 ·have d:t.hear b frm c a=t.say 1 ([69,72,76,79,32]++b):=by unfold aP.hear;rw [if_pos i,if_pos g]
  rw [d];have p:w.cell? ⟨tb,0,none⟩=some (.pointer (some ⟨pp,0,none⟩)):=h.cell 0;have k:=Lib.hid (mX h 1 ([69,72,76,79,32]++b) (by rw [List.length_append];simp only [List.length_cons,List.length_nil];omega));have l:Hid ((⟨#[69,72,76,79,32]⟩:ByteArray)++bs b=bs ([69,72,76,79,32]++b)):=Lib.hid (ca [69,72,76,79,32] b);have n:=aI b;subst g;clear h d i;go_enter Tryz.func87,Tryz.ntmps87;go_wp2_with fail
  rw [l.out];refine k.out.mono ?_;rintro e o ⟨rfl,f⟩;have j:=Lib.hid f;clear f;go_wp2_with fail
  go_ret;exact ⟨rfl,j.out⟩
 ·have d:t.hear b frm c a=t.quit:=by unfold aP.hear;rw [if_pos i,if_neg g]
  rw [d];have m:((a:Int) == 2)=false:=by rw [beq_eq_false_iff_ne];omega
  have k:=Lib.hid (fp h);clear h d i g;go_enter Tryz.func87,Tryz.ntmps87;go_wp2_with fail
  refine k.out.mono ?_;rintro e o ⟨rfl,f⟩;have j:=Lib.hid f;clear f;go_wp2_with fail
  go_ret;exact ⟨rfl,j.out⟩
theorem ux (h:bM w tb ch pp pb va vu vl frm body cap false t) (b c:List UInt8) (q:frm.length≤1000) (i:t.said=1) (a:Nat):
  Calls Tryz.prog 88 #[.pointer (some ⟨tb,0,none⟩),.int .i64 (a:Int)] w (fF tb ch pp pb va vl frm body cap w (t.hear b frm c a)):=by
 by_cases g:a=2
 ·have d:t.hear b frm c a=t.say 2 ([77,65,73,76,32,70,82,79,77,58,60]++frm++[62]):=by unfold aP.hear;rw [if_neg (by omega),if_pos i,if_pos g]
  rw [d];have p:w.cell? ⟨tb,3,none⟩=some (.string (bs frm)):=h.cell 3;have k:=Lib.hid (mX h 2 ([77,65,73,76,32,70,82,79,77,58,60]++frm++[62]) (by simp only [List.length_append,List.length_cons,List.length_nil];omega))
  have l:Hid (((⟨#[77,65,73,76,32,70,82,79,77,58,60]⟩:ByteArray)++bs frm)++(⟨#[62]⟩:ByteArray)=bs ([77,65,73,76,32,70,82,79,77,58,60]++frm++[62])):=Lib.hid (by
   rw [←ca ([77,65,73,76,32,70,82,79,77,58,60]++frm) [62],←ca [77,65,73,76,32,70,82,79,77,58,60] frm]
   rfl)
  have n:=aI frm;subst g;clear h d i;go_enter Tryz.func88,Tryz.ntmps88;go_wp2_with fail
  rw [l.out];refine k.out.mono ?_;rintro e o ⟨rfl,f⟩;have j:=Lib.hid f;clear f;go_wp2_with fail
  go_ret;exact ⟨rfl,j.out⟩
 ·have d:t.hear b frm c a=t.quit:=by unfold aP.hear;rw [if_neg (by omega),if_pos i,if_neg g]
  rw [d];have m:((a:Int) == 2)=false:=by rw [beq_eq_false_iff_ne];omega
  have k:=Lib.hid (fp h);clear h d i g;go_enter Tryz.func88,Tryz.ntmps88;go_wp2_with fail
  refine k.out.mono ?_;rintro e o ⟨rfl,f⟩;have j:=Lib.hid f;clear f;go_wp2_with fail
  go_ret;exact ⟨rfl,j.out⟩
theorem sK (h:bM w tb ch pp pb va vu vl frm body cap false t) (b c:List UInt8) (o:∀x∈t.una,x.2.length≤1000) (m:t.una.length≤1000) (q:t.wil.length≤1000) (g:t.came.length+t.una.length≤cap) (j:t.said=2) (a:Nat):
  Calls Tryz.prog 89 #[.pointer (some ⟨tb,0,none⟩),.int .i64 (a:Int)] w (fF tb ch pp pb va vl frm body cap w (t.hear b frm c a)):=by
 by_cases i:a=2
 ·have d:t.hear b frm c a=t.ask:=by unfold aP.hear;rw [if_neg (by omega),if_neg (by omega),if_pos j,if_pos i]
  rw [d];have l:=Lib.hid (oD h o m q);subst i;clear h d j o;go_enter Tryz.func89,Tryz.ntmps89;go_wp2_with fail
  refine l.out.mono ?_;rintro e y ⟨rfl,f⟩;have k:=Lib.hid f;clear f;go_wp2_with fail
  go_ret;exact ⟨rfl,k.out⟩
 ·have C:((a:Int) == 2)=false:=by rw [beq_eq_false_iff_ne];omega
  by_cases n:a=5
  ·have d:t.hear b frm c a=(t.leave t.una false).quit:=by unfold aP.hear;rw [if_neg (by omega),if_neg (by omega),if_pos j,if_neg i,if_pos n]
   rw [d];obtain ⟨A,B,p⟩:=aE h.una;have D:w.cell? ⟨tb,7,none⟩=some (.slice A t.una.length B):=by rw [←p];exact h.cell 7
   have r:=Lib.hid (oQ h vu t.una h.una (fun e=>(h.at_ ch (h.ua ch e)).2.1 rfl) m g);rw [p] at r;subst n;clear h d j o i p;go_enter Tryz.func89,Tryz.ntmps89;go_wp2_with fail
   refine r.out.mono ?_;rintro e y ⟨rfl,u,s⟩;have l:=Lib.hid (fp u);have z:=Lib.hid s;clear u s;go_wp2_with fail
   refine l.out.mono ?_;intro e E f;have k:=Lib.hid (fF.after z.out f);obtain ⟨rfl,_⟩:=f;go_wp2_with fail
   go_ret;exact k.out
  ·have d:t.hear b frm c a=t.quit:=by unfold aP.hear;rw [if_neg (by omega),if_neg (by omega),if_pos j,if_neg i,if_neg n]
   rw [d];have v:((a:Int) == 5)=false:=by rw [beq_eq_false_iff_ne];omega
   have l:=Lib.hid (fp h);clear h d j i n o;go_enter Tryz.func89,Tryz.ntmps89;go_wp2_with fail
   refine l.out.mono ?_;rintro e y ⟨rfl,f⟩;have k:=Lib.hid f;clear f;go_wp2_with fail
   go_ret;exact ⟨rfl,k.out⟩
end
section
variable {w w':World} {tb ch pp pb:Nat} {va vu vl:Value} {frm body:List UInt8} {cap:Nat} {t:aP}
theorem Ht (h:aZ w vu t.una.length 2 (aL t.una)) {r:Nat×List UInt8} {u:List (Nat×List UInt8)} (n:t.una=r::u):∃b a e c,vu= .slice (some ⟨b,a,none⟩) (u.length+1) (c+1)∧u.length≤c∧((c=0∧e=a)∨∃l,c=l+1∧e=a+2)∧aZ w (.slice (some ⟨b,a,none⟩) 1 (c+1)) 1 2 (aL [r])∧aZ w (.slice (some ⟨b,e,none⟩) u.length c) u.length 2 (aL u):=by
 rw [n] at h;obtain ⟨q,⟨o,_⟩ | ⟨b,a,c,f,d,g⟩⟩:=h
 ·simp at o
 ·obtain ⟨c,rfl⟩:∃m,c=m+1:=⟨c - 1,by simp at d;omega⟩
  have d:u.length≤c:=by simpa using d
  have k:aZ w (.slice (some ⟨b,a,none⟩) 1 (c+1)) 1 2 (aL [r]):=⟨rfl,.inr ⟨b,a,c+1,rfl,by omega,fun j p=>by
   rw [g j (by simp only [List.length_cons];omega)];obtain rfl | rfl:j=0∨j=1:=by omega
   ·rfl
   ·rfl⟩⟩
  cases c with
  | zero=>
   have i:u=[]:=List.eq_nil_of_length_eq_zero (by omega);exact ⟨b,a,a,0,f,d,.inl ⟨rfl,rfl⟩,k,⟨by rw [jN],.inl ⟨by rw [i];rfl,_,_,by rw [i];rfl⟩⟩⟩
  | succ c=>
   refine ⟨b,a,a+2,c+1,f,d,.inr ⟨c,rfl,rfl⟩,k,⟨by rw [jN],.inr ⟨b,a+2,c+1,rfl,d,fun j p=>?_⟩⟩⟩
   rw [show a+2+j=a+(2+j) by omega,g (2+j) (by simp only [List.length_cons];omega)]
   show ([Value.int .i64 (r.1:Int),.string (bs r.2)]++aL u)[2+j]? =_;rw [List.getElem?_append_right (by simp)];simp
theorem bM.cut (h:bM w tb ch pp pb va vu vl frm body cap false t) {r:Nat×List UInt8} {u:List (Nat×List UInt8)} {b d a c:Nat} (i:t.una=r::u) (j:vu= .slice (some ⟨b,d,none⟩) (u.length+1) (c+1)) (l:aZ w (.slice (some ⟨b,a,none⟩) u.length c) u.length 2 (aL u)):
  bM (w.setCell ⟨tb,7,none⟩ (.slice (some ⟨b,a,none⟩) u.length c)) tb ch pp pb va (.slice (some ⟨b,a,none⟩) u.length c) vl frm body cap false {t with una:=t.una.drop 1}∧aF (kK tb ch va vl) w (w.setCell ⟨tb,7,none⟩ (.slice (some ⟨b,a,none⟩) u.length c)):=by
 have f:aH tb w (w.setCell ⟨tb,7,none⟩ (.slice (some ⟨b,a,none⟩) u.length c)):=(aH.refl _ _).setCell _;have g:t.una.drop 1=u:=by rw [i];rfl
 refine ⟨h.put (t':={t with una:=t.una.drop 1}) f (heap_setCell_same w tb 7 _ _ _ h.blk) rfl (by show aZ w _ (t.una.drop 1).length 2 (aL (t.una.drop 1));rw [g];exact l) h.wil (fun k e=>h.ua k (by rw [j];exact e)) (fun k e=>⟨h.al k e,(h.lb e).1⟩),(aF.same f).mono (fun k _ e=> .inl e)⟩
theorem bM.more (h:bM w tb ch pp pb va vu vl frm body cap false t) {r:Nat×List UInt8} {b d c:Nat} (I:aZ w (.slice (some ⟨b,d,none⟩) 1 c) 1 2 (aL [r])) (W:t.wil.length≤1000):
  ∃g m f,(Builtin.append_ #[102,102] 102 #[vl,.slice (some ⟨b,d,none⟩) 1 c]).run Tryz.prog w= .ok (.slice (some ⟨g,0,none⟩) (t.wil.length+1) m) f∧f.cell? ⟨tb,8,none⟩=some vl∧f.frozen? ⟨tb,8,none⟩=false∧
   bM (f.setCell ⟨tb,8,none⟩ (.slice (some ⟨g,0,none⟩) (t.wil.length+1) m)) tb ch pp pb va vu (.slice (some ⟨g,0,none⟩) (t.wil.length+1) m) frm body cap false {t with wil:=t.wil++[r]}∧aF (kK tb ch va vl) w (f.setCell ⟨tb,8,none⟩ (.slice (some ⟨g,0,none⟩) (t.wil.length+1) m))∧(vl.ownBlock=some g∨w.heap.size≤g):=by
 obtain ⟨i,K,A,B,C⟩:=info_parts kY;obtain ⟨L,⟨U,_⟩ | ⟨S,G,T,a,_,J⟩⟩:=I
 ·omega
 injection a with a _ _;injection a with a;injection a with l e3;subst l e3
 obtain ⟨g,m,f,M,N,F⟩:=gj (P:=Tryz.prog) w 102 102 0 162 i _ 2 24 Tryz.underlying102 K A B C rfl (by decide) vl t.wil.length (aL t.wil) h.wil ⟨b,d,none⟩ 1 c (aL [r]) rfl (fun j x o=>by
  have V:j < 2:=by
   rcases Nat.lt_or_ge j 2 with v | v
   ·exact v
   ·rw [List.getElem?_eq_none (by simpa [aL] using v)] at o;cases o
  have u:(⟨b,d,none⟩:Addr).add j=⟨b,d+j,none⟩:=by unfold Addr.add;split <;> simp_all
  rw [u,J j (by omega),o]) (by intro x o;simp [aL] at o;rcases o with rfl | rfl <;> rfl) (by decide) (by unfold maxLen;omega) (by omega) (Nat.zero_le _)
 have p:aF (fun k=>vl.ownBlock=some k) w f:=by
  rcases F with ⟨a,y⟩ | ⟨_,y⟩
  ·exact (aF.grown y).mono fun k _ e=>a.trans e
  ·exact (aF.grown y).mono fun k _ e=>by cases e
 have D:vl.ownBlock=some g∨w.heap.size≤g:=by
  rcases F with ⟨a,_⟩ | ⟨a,_⟩
  ·exact .inl a
  ·exact .inr (by rw [a];exact Nat.le_refl _)
 have O:¬vl.ownBlock=some tb:=fun e=>(h.lb e).1 rfl;have Q:¬vl.ownBlock=some ch:=fun e=>(h.lb e).2.1 rfl;have n:=p.some_ h.blk O;have q:aH tb f (f.setCell ⟨tb,8,none⟩ (.slice (some ⟨g,0,none⟩) (t.wil.length+1) m)):=(aH.refl _ _).setCell _
 have E:va.ownBlock≠some g∧g≠tb:=by
  rcases D with e | e
  ·exact ⟨h.al g e,(h.lb e).1⟩
  ·exact ⟨fun l=>by have:=(h.at_ g l).2.2;omega,fun l=>by have:=ah h.blk;omega⟩
 have H:aL (t.wil++[r])=aL t.wil++aL [r]:=by unfold aL;rw [List.flatMap_append]
 obtain ⟨s,R,z⟩:=h.chan;refine ⟨g,m,f,M,by rw [Lib.cell_of_heap n];rfl,Lib.frozen_of_heap n 8,⟨heap_setCell_same f tb 8 _ _ _ n,⟨s,R,aJ q (p.some_ z Q) (Ne.symm h.tc)⟩,?_,?_,h.ua,fun k e=>?_,fun k e=>⟨(h.at_ k e).1,(h.at_ k e).2.1,Nat.lt_of_lt_of_le (h.at_ k e).2.2 (Nat.le_trans p.size (aF.same q).size)⟩⟩,?_,D⟩
 ·exact (h.una.chg p (fun g e l=>h.al g l (h.ua g e))).chg (aF.same q) (fun g e l=>(h.at_ g (h.ua g e)).1 l)
 ·show World.ownsRow _ 0 162 2 _ (t.wil++[r]).length (aL (t.wil++[r]));rw [H,List.length_append];refine br N (aF.same q) (fun k e l=>E.2 ?_);have e:g=k:=by simpa [Value.ownBlock] using e
  exact e.trans l
 ·have e:g=k:=by simpa [Value.ownBlock] using e
  rw [←e];exact E.1
 ·exact (p.mono (fun k _ e=> .inr (.inr (.inr e)))).trans (aF.same q) (fun k _ e=> .inl e)
end
section
variable {w w':World} {tb ch pp pb:Nat} {va vu vl:Value} {frm body:List UInt8} {cap:Nat} {t:aP}
theorem fF.later {x:aP×List UInt8} {g:World} {e:Ending} {a:Value} (_:∀k,kK tb ch va vl k→k < w.heap.size) (d:aF (kK tb ch va vl) w g) (f:∀k,a.ownBlock=some k→vl.ownBlock=some k∨w.heap.size≤k) (h:fF tb ch pp pb va a frm body cap g x e w'):fF tb ch pp pb va vl frm body cap w x e w':=by
 obtain ⟨i,c,b,j,l,m⟩:=h;refine ⟨i,c,b,j,d.trans l (fun k n e=>?_),fun k e=>(m k e).elim (f k) (fun e=> .inr (Nat.le_trans d.size e))⟩
 rcases e with e | e | e | e
 ·exact .inl e
 ·exact .inr (.inl e)
 ·exact .inr (.inr (.inl e))
 ·exact (f k e).elim (fun e=> .inr (.inr (.inr e))) (fun e=>by omega)
theorem oU (h:bM w tb ch pp pb va vu vl frm body cap false t) (l m:List UInt8) (Y:∀x∈t.una,x.2.length≤1000) (S:t.una.length≤1000) (a2:t.wil.length≤999) (y:t.came.length+t.una.length≤cap) (M:t.said=3) (hu:t.una≠[]) (a:Nat):
  Calls Tryz.prog 90 #[.pointer (some ⟨tb,0,none⟩),.int .i64 (a:Int)] w (fF tb ch pp pb va vl frm body cap w (t.hear l frm m a)):=by
 obtain ⟨r,u,E⟩:∃r u,t.una=r::u:=by
  cases e:t.una with
  | nil=>exact absurd e hu
  | cons r u=>exact ⟨r,u,rfl⟩
 obtain ⟨b,B,G,c,L,K,J,Z,ru⟩:=Ht h.una E;obtain ⟨I,V⟩:=h.cut E L ru;have c7:w.cell? ⟨tb,7,none⟩=some (.slice (some ⟨b,B,none⟩) (u.length+1) (c+1)):=by rw [←L];exact h.cell 7
 have f7:=h.frozen 7;have ul:u.length+1≤1000:=by rw [E] at S;simpa using S
 have R:va.ownBlock=some b:=h.ua b (by rw [L];rfl);have a0:b≠tb:=(h.at_ b R).1;have q:aZ (w.setCell ⟨tb,7,none⟩ (.slice (some ⟨b,G,none⟩) u.length c)) (.slice (some ⟨b,B,none⟩) 1 (c+1)) 1 2 (aL [r]):=Z.chg (aF.same ((aH.refl tb w).setCell _)) (fun g e e2=>a0 ((show b=g by simpa [Value.ownBlock] using e).trans e2));have p:∀x∈t.una.drop 1,x.2.length≤1000:=fun x hx=>Y x (List.mem_of_mem_drop hx);have A:(t.una.drop 1).length≤1000:=by rw [List.length_drop];omega
 have O:Hid (∀k,kK tb ch va vl k→k < w.heap.size):=Lib.hid (fun k e=>h.lt e);have j:=Lib.hid V;have i2:(1:Int)≤(u.length:Int)+1:=by omega
 obtain ⟨W1,v⟩:∃W1:World,w.setCell ⟨tb,7,none⟩ (.slice (some ⟨b,G,none⟩) u.length c)=W1:=⟨_,rfl⟩;rw [v] at I q j;have f:=Lib.hid v;have P:t.una.take 1=[r]:=by rw [E];rfl
 obtain ⟨T,H⟩:∃T,u.length=T:=⟨_,rfl⟩;have d8:w.cell? ⟨tb,8,none⟩=some vl:=h.cell 8;obtain ⟨al,cl,el⟩:=aE (aC h.wil)
 by_cases Q:a=2
 ·have D:t.hear l frm m a=({t with una:=t.una.drop 1,wil:=t.wil++[r]}:aP).ask:=by unfold aP.hear;rw [if_neg (by omega),if_neg (by omega),if_neg (by omega),if_pos M,if_pos Q,P]
  rw [D];obtain ⟨g,cp,W2,k1,k2,k3,F,C,G2⟩:=I.more q (by show t.wil.length≤1000;omega);have o:=Lib.hid (oD F p A (by show (t.wil++[r]).length≤1000;rw [List.length_append];simp only [List.length_cons,List.length_nil];omega));obtain ⟨X,z⟩:∃X,({t with una:=t.una.drop 1,wil:=t.wil++[r]}:aP).ask=X:=⟨_,rfl⟩;rw [z] at o ⊢;have HR:=Lib.hid k1;have n:=Lib.hid (j.out.trans C (fun _ _ e=>e))
  have HG:Hid (∀k,(Value.slice (some ⟨g,0,none⟩) (t.wil.length+1) cp).ownBlock=some k→vl.ownBlock=some k∨w.heap.size≤k):=Lib.hid (fun k e=>by
   have e:g=k:=by simpa [Value.ownBlock] using e
   rw [←e]
   exact G2.imp id (fun e=>Nat.le_trans j.out.size e))
  rw [el] at d8 k2 HR;subst Q;clear h I Z q ru D M Y p E P F C k1 G2 V v L z;rw [H] at c7 f i2 K ul
  rcases J with ⟨rfl,rfl⟩ | ⟨c',rfl,rfl⟩
  ·obtain rfl:T=0:=by omega
   have d:=HR.out;rw [←f.out] at d;have d:=Lib.hid d;go_enter Tryz.func90,Tryz.ntmps90
   go_wp2_with (first
    | (at_builtin;refine bH rfl _ _ 102 rfl _ _ (.slice (some ⟨g,0,none⟩) (t.wil.length+1) cp) W2 rfl rfl d.out ?_)
    | fail)
   refine o.out.mono ?_;intro e U i;have s:=Lib.hid (fF.later O.out n.out HG.out i);obtain ⟨rfl,_⟩:=i;go_wp2_with fail
   go_ret;exact ⟨rfl,s.out.2⟩
  ·have d:=HR.out;rw [←f.out] at d;have d:=Lib.hid d;go_enter Tryz.func90,Tryz.ntmps90
   go_wp2_with (first
    | (at_builtin;refine bH rfl _ _ 102 rfl _ _ (.slice (some ⟨g,0,none⟩) (t.wil.length+1) cp) W2 rfl rfl d.out ?_)
    | fail)
   refine o.out.mono ?_;intro e U i;have s:=Lib.hid (fF.later O.out n.out HG.out i);obtain ⟨rfl,_⟩:=i;go_wp2_with fail
   go_ret;exact ⟨rfl,s.out.2⟩
 ·have a3:((a:Int) == 2)=false:=by rw [beq_eq_false_iff_ne];omega
  by_cases W:a=5
  ·have D:t.hear l frm m a=(({t with una:=t.una.drop 1}:aP).leave [r] false).ask:=by unfold aP.hear;rw [if_neg (by omega),if_neg (by omega),if_neg (by omega),if_pos M,if_neg Q,if_pos W,P]
   rw [D];have hv:(Value.slice (some ⟨b,B,none⟩) 1 (c+1)).ownBlock≠some ch:=fun e=>(h.at_ b R).2.1 (by simpa [Value.ownBlock] using e);have HF:=Lib.hid (oQ I (.slice (some ⟨b,B,none⟩) 1 (c+1)) [r] q hv (by simp) (by show t.came.length+1≤cap;rw [E] at y;simp only [List.length_cons] at y;omega));have HZ:=Lib.hid p;obtain ⟨X,z⟩:∃X,(({t with una:=t.una.drop 1}:aP).leave [r] false).ask=X:=⟨_,rfl⟩;rw [z];have N:=Lib.hid z;subst W;clear h I Z q ru D M Y p E P V v L hv el d8 z;rw [H] at c7 f i2 K ul
   rcases J with ⟨rfl,rfl⟩ | ⟨c',rfl,rfl⟩
   ·obtain rfl:T=0:=by omega
    go_enter Tryz.func90,Tryz.ntmps90;go_wp2_with fail
    rw [f.out];refine HF.out.mono ?_;rintro e w2 ⟨rfl,F,C⟩;have o:=Lib.hid (oD F HZ.out A (by show t.wil.length≤1000;omega));rw [N.out] at o;have n:=Lib.hid (j.out.trans C (fun _ _ e=>e));clear F C;go_wp2_with fail
    refine o.out.mono ?_;intro e U i;have s:=Lib.hid (fF.after n.out i);obtain ⟨rfl,_⟩:=i;go_wp2_with fail
    go_ret;exact ⟨rfl,s.out.2⟩
   ·go_enter Tryz.func90,Tryz.ntmps90;go_wp2_with fail
    rw [f.out];refine HF.out.mono ?_;rintro e w2 ⟨rfl,F,C⟩;have o:=Lib.hid (oD F HZ.out A (by show t.wil.length≤1000;omega));rw [N.out] at o;have n:=Lib.hid (j.out.trans C (fun _ _ e=>e));clear F C;go_wp2_with fail
    refine o.out.mono ?_;intro e U i;have s:=Lib.hid (fF.after n.out i);obtain ⟨rfl,_⟩:=i;go_wp2_with fail
    go_ret;exact ⟨rfl,s.out.2⟩
  ·have D:t.hear l frm m a=({t with una:=t.una.drop 1}:aP).ask:=by unfold aP.hear;rw [if_neg (by omega),if_neg (by omega),if_neg (by omega),if_pos M,if_neg Q,if_neg W]
   rw [D];have a1:((a:Int) == 5)=false:=by rw [beq_eq_false_iff_ne];omega
   have o:=Lib.hid (oD I p A (by show t.wil.length≤1000;omega));obtain ⟨X,z⟩:∃X,({t with una:=t.una.drop 1}:aP).ask=X:=⟨_,rfl⟩;rw [z] at o ⊢;clear h I Z q ru D M Y p E P V v L el d8 Q W z;rw [H] at c7 f i2 K ul
   rcases J with ⟨rfl,rfl⟩ | ⟨c',rfl,rfl⟩
   ·obtain rfl:T=0:=by omega
    go_enter Tryz.func90,Tryz.ntmps90;go_wp2_with fail
    rw [f.out];refine o.out.mono ?_;intro e U i;have s:=Lib.hid (fF.after j.out i);obtain ⟨rfl,_⟩:=i;go_wp2_with fail
    go_ret;exact ⟨rfl,s.out.2⟩
   ·go_enter Tryz.func90,Tryz.ntmps90;go_wp2_with fail
    rw [f.out];refine o.out.mono ?_;intro e U i;have s:=Lib.hid (fF.after j.out i);obtain ⟨rfl,_⟩:=i;go_wp2_with fail
    go_ret;exact ⟨rfl,s.out.2⟩
theorem xz (h:bM w tb ch pp pb va vu vl frm body cap false t) (c b:List UInt8) (s:t.wil.length≤1000) (i:t.came.length+t.wil.length≤cap) (k:t.said=4) (H:b.length≤10000000000000) (r:Calls Tryz.prog 130 #[.string (bs body)] w fun e w'=>e= .returned (.string (bs b))∧Below w.heap.size w w') (a:Nat):
  Calls Tryz.prog 91 #[.pointer (some ⟨tb,0,none⟩),.int .i64 (a:Int)] w (fF tb ch pp pb va vl frm body cap w (t.hear c frm b a)):=by
 by_cases j:a=3
 ·have d:t.hear c frm b a=t.say 5 (b++xh++[46]):=by unfold aP.hear;rw [if_neg (by omega),if_neg (by omega),if_neg (by omega),if_neg (by omega),if_pos k,if_pos j]
  rw [d];have K:w.cell? ⟨tb,5,none⟩=some (.string (bs body)):=h.cell 5;have C:=Lib.hid r
  have v:Hid ((bs b++(⟨#[13,10]⟩:ByteArray))++(⟨#[46]⟩:ByteArray)=bs (b++xh++[46])):=Lib.hid (by
   rw [←ca (b++xh) [46],←ca b xh]
   rfl)
  have n:(b++xh++[46]).length≤100000000000000:=by simp only [xh,List.length_append,List.length_cons,List.length_nil];omega
  obtain ⟨L,z⟩:∃L,b++xh++[46]=L:=⟨_,rfl⟩;rw [z] at v n ⊢;have I:=aI b;have D:=Lib.hid h;subst j;clear h d k r z;go_enter Tryz.func91,Tryz.ntmps91;go_wp2_with fail
  refine C.out.mono ?_;rintro e u ⟨rfl,g⟩;have m:=Lib.hid (mX (D.out.below g) 5 L n);have p:=Lib.hid (aF.below g:aF (kK tb ch va vl) w u);clear g;go_wp2_with fail
  rw [v.out];refine m.out.mono ?_;intro e J f;have l:=Lib.hid (fF.after p.out f);obtain ⟨rfl,_⟩:=f;go_wp2_with fail
  go_ret;exact ⟨rfl,l.out.2⟩
 ·have G:((a:Int) == 3)=false:=by rw [beq_eq_false_iff_ne];omega
  clear r
  by_cases o:a=5
  ·have d:t.hear c frm b a=(t.leave t.wil false).quit:=by unfold aP.hear;rw [if_neg (by omega),if_neg (by omega),if_neg (by omega),if_neg (by omega),if_pos k,if_neg j,if_pos o]
   rw [d];obtain ⟨E,F,q⟩:=aE (aC h.wil);have M:w.cell? ⟨tb,8,none⟩=some (.slice E t.wil.length F):=by rw [←q];exact h.cell 8
   have x:=Lib.hid (oQ h vl t.wil (aC h.wil) (fun e=>(h.lb e).2.1 rfl) s i);rw [q] at x;subst o;clear h d k j;go_enter Tryz.func91,Tryz.ntmps91;go_wp2_with fail
   refine x.out.mono ?_;rintro e u ⟨rfl,A,y⟩;have m:=Lib.hid (fp A);have p:=Lib.hid y;clear A y;go_wp2_with fail
   refine m.out.mono ?_;intro e J f;have l:=Lib.hid (fF.after p.out f);obtain ⟨rfl,_⟩:=f;go_wp2_with fail
   go_ret;rw [q];exact ⟨rfl,l.out.2⟩
  ·have d:t.hear c frm b a=t.quit:=by unfold aP.hear;rw [if_neg (by omega),if_neg (by omega),if_neg (by omega),if_neg (by omega),if_pos k,if_neg j,if_neg o]
   rw [d];have B:((a:Int) == 5)=false:=by rw [beq_eq_false_iff_ne];omega
   have m:=Lib.hid (fp h);clear h d k j o;go_enter Tryz.func91,Tryz.ntmps91;go_wp2_with fail
   refine m.out.mono ?_;rintro e u ⟨rfl,f⟩;have l:=Lib.hid f;clear f;go_wp2_with fail
   go_ret;exact ⟨rfl,l.out⟩
theorem xy (h:bM w tb ch pp pb va vu vl frm body cap false t) (b c:List UInt8) (p:t.wil.length≤1000) (d:t.came.length+t.wil.length≤cap) (v:t.said=5) (a:Nat):
  Calls Tryz.prog 92 #[.pointer (some ⟨tb,0,none⟩),.int .i64 (a:Int)] w (fF tb ch pp pb va vl frm body cap w (t.hear b frm c a)):=by
 by_cases j:a=2
 ·have f:t.hear b frm c a=(t.leave t.wil true).quit:=by unfold aP.hear;rw [if_neg (by omega),if_neg (by omega),if_neg (by omega),if_neg (by omega),if_neg (by omega),if_pos j]
  rw [f];obtain ⟨s,u,i⟩:=aE (aC h.wil);have z:w.cell? ⟨tb,8,none⟩=some (.slice s t.wil.length u):=by rw [←i];exact h.cell 8
  have k:=Lib.hid (Ir h vl t.wil (aC h.wil) (fun e=>(h.lb e).2.1 rfl) p d);rw [i] at k;subst j;clear h f v;go_enter Tryz.func92,Tryz.ntmps92;go_wp2_with fail
  refine k.out.mono ?_;rintro e y ⟨rfl,o,n⟩;have m:=Lib.hid (fp o);have r:=Lib.hid n;clear o n;go_wp2_with fail
  refine m.out.mono ?_;intro e B g;have l:=Lib.hid (fF.after r.out g);obtain ⟨rfl,_⟩:=g;go_wp2_with fail
  go_ret;rw [i];exact ⟨rfl,l.out.2⟩
 ·have A:((a:Int) == 2)=false:=by rw [beq_eq_false_iff_ne];omega
  by_cases q:a=5
  ·have f:t.hear b frm c a=(t.leave t.wil false).quit:=by unfold aP.hear;rw [if_neg (by omega),if_neg (by omega),if_neg (by omega),if_neg (by omega),if_neg (by omega),if_neg j,if_pos q]
   rw [f];obtain ⟨s,u,i⟩:=aE (aC h.wil);have z:w.cell? ⟨tb,8,none⟩=some (.slice s t.wil.length u):=by rw [←i];exact h.cell 8
   have k:=Lib.hid (oQ h vl t.wil (aC h.wil) (fun e=>(h.lb e).2.1 rfl) p d);rw [i] at k;subst q;clear h f v j;go_enter Tryz.func92,Tryz.ntmps92;go_wp2_with fail
   refine k.out.mono ?_;rintro e y ⟨rfl,o,n⟩;have m:=Lib.hid (fp o);have r:=Lib.hid n;clear o n;go_wp2_with fail
   refine m.out.mono ?_;intro e B g;have l:=Lib.hid (fF.after r.out g);obtain ⟨rfl,_⟩:=g;go_wp2_with fail
   go_ret;rw [i];exact ⟨rfl,l.out.2⟩
  ·have f:t.hear b frm c a=t.quit:=by unfold aP.hear;rw [if_neg (by omega),if_neg (by omega),if_neg (by omega),if_neg (by omega),if_neg (by omega),if_neg j,if_neg q]
   rw [f];have x:((a:Int) == 5)=false:=by rw [beq_eq_false_iff_ne];omega
   have m:=Lib.hid (fp h);clear h f v j q;go_enter Tryz.func92,Tryz.ntmps92;go_wp2_with fail
   refine m.out.mono ?_;rintro e y ⟨rfl,g⟩;have l:=Lib.hid g;clear g;go_wp2_with fail
   go_ret;exact ⟨rfl,l.out⟩
end
theorem uA:(Tryz.prog.info? 201).map (fun i=>(i.zero,i.size,i.bytes))=some (some (.agg #[.int .i64 0,.bool false]),2,16):=by kernel_rfl
theorem uX (l j i B:Nat) (b a:List UInt8) (q:Value) (L:List (Nat×List UInt8)) (w:World) (v:w.ownsRow B 162 2 q L.length (aL L)) (V:L.length≤1000):
  Calls Tryz.prog 48 #[.pointer (some ⟨l,0,none⟩),.pointer (some ⟨j,0,none⟩),.agg #[.int .i64 ((i:Int)+1),.string (bs b),q,.string (bs a)]] w fun e G=>∃x D,e= .returned (.pointer (some ⟨x,0,none⟩))∧bM G x D l j q q (.slice none 0 0) b a L.length false ⟨i,0,L,[],[]⟩∧w.heap.size≤x∧w.heap.size≤D∧Below w.heap.size w G:=by
 obtain ⟨d,f,M⟩:=aE (aC v);have A:=Lib.hid v;subst M;obtain ⟨c,g⟩:∃c:World,w.alloc (.cells #[.int .i64 ((i:Int)+1),.string (bs b),.slice d L.length f,.string (bs a)] 104)=c:=⟨_,rfl⟩;have r:Below w.heap.size w c:=by rw [←g];exact (Below.refl _ _).alloc (Nat.le_refl _) _
 have o:c.drew.heap[w.heap.size]? =some (.cells #[.int .i64 ((i:Int)+1),.string (bs b),.slice d L.length f,.string (bs a)] 104 (0,0)):=by rw [←g];exact heap_alloc_new w _
 have S:c.heap.size=w.heap.size+1:=by rw [←g];simp
 have O:c.drew.cell? ⟨w.heap.size,0,none⟩=some (.int .i64 ((i:Int)+1)):=by rw [Lib.cell_of_heap o];rfl
 have P:c.drew.cell? ⟨w.heap.size,1,none⟩=some (.string (bs b)):=by rw [Lib.cell_of_heap o];rfl
 have Q:c.drew.cell? ⟨w.heap.size,2,none⟩=some (.slice d L.length f):=by rw [Lib.cell_of_heap o];rfl
 have R:c.drew.cell? ⟨w.heap.size,3,none⟩=some (.string (bs a)):=by rw [Lib.cell_of_heap o];rfl
 have Y:c.cell? ⟨w.heap.size,0,none⟩=some (.int .i64 ((i:Int)+1)):=O;have Z:c.cell? ⟨w.heap.size,1,none⟩=some (.string (bs b)):=P;have n2:c.cell? ⟨w.heap.size,2,none⟩=some (.slice d L.length f):=Q;have n3:c.cell? ⟨w.heap.size,3,none⟩=some (.string (bs a)):=R;obtain ⟨X,u,E,F,p⟩:=info_parts uA;have N:∀W:World,(Instr.makeChan 151 (.int .i64 (L.length:Int))).run Tryz.prog W= .ok (.chan (some W.heap.size)) (W.alloc (.chan L.length #[] false 0 0 false)):=fun W=>Conc.run_makeChan (n:=L.length) Tryz.underlying151 u .i64 (by omega) (by rw [p];omega);have t:=Lib.hid g;have J:=Lib.hid r
 have z:Hid (bM ((c.alloc (.chan L.length #[] false 0 0 false)).alloc (.cells (dZ l j (w.heap.size+1) (.slice d L.length f) (.slice d L.length f) (.slice none 0 0) b a false ⟨i,0,L,[],[]⟩) 153)).drew (w.heap.size+1+1) (w.heap.size+1) l j (.slice d L.length f) (.slice d L.length f) (.slice none 0 0) b a L.length false ⟨i,0,L,[],[]⟩∧Below w.heap.size w ((c.alloc (.chan L.length #[] false 0 0 false)).alloc (.cells (dZ l j (w.heap.size+1) (.slice d L.length f) (.slice d L.length f) (.slice none 0 0) b a false ⟨i,0,L,[],[]⟩) 153)).drew):=Lib.hid (by
  have H:(c.alloc (.chan L.length #[] false 0 0 false)).heap.size=w.heap.size+1+1:=by simp;omega
  obtain ⟨h,m⟩:∃h:World,c.alloc (.chan L.length #[] false 0 0 false)=h:=⟨_,rfl⟩;have I:Below c.heap.size c h:=by rw [←m];exact (Below.refl _ _).alloc (Nat.le_refl _) _
  have K:h.heap[w.heap.size+1]? =some (.chan L.length #[] false 0 0 false):=by rw [←m,←S];exact heap_alloc_new c _
  rw [m] at H ⊢;have y:=(Below.refl h.heap.size h).alloc (Nat.le_refl _) (.cells (dZ l j (w.heap.size+1) (.slice d L.length f) (.slice d L.length f) (.slice none 0 0) b a false ⟨i,0,L,[],[]⟩) 153);have s:Below w.heap.size w (h.alloc (.cells (dZ l j (w.heap.size+1) (.slice d L.length f) (.slice d L.length f) (.slice none 0 0) b a false ⟨i,0,L,[],[]⟩) 153)).drew:=((r.trans (I.mono (by omega))).trans (y.mono (by omega))).drew;have C:=heap_alloc_new h (.cells (dZ l j (w.heap.size+1) (.slice d L.length f) (.slice d L.length f) (.slice none 0 0) b a false ⟨i,0,L,[],[]⟩) 153);rw [H] at C;refine ⟨⟨C,⟨0,0,ae y K⟩,(aC A.out).below s,World.ownsRow_nil _ _ _ _,fun k e=>e,(fun k e=>by cases e),fun k e=>?_⟩,s⟩;have T:=(A.out.lt k e).2;have U:=s.size
  exact ⟨by omega,by omega,by omega⟩)
 clear o r g v;go_enter Tryz.func48,Tryz.ntmps48;go_wp2_with fail
 rw [t.out];go_region_law (fail)
 all_goals
  go_wp2_with fail
  go_ret;exact ⟨w.heap.size+1+1,w.heap.size+1,rfl,z.out.1,by omega,by omega,z.out.2⟩
end Go.Proofs.YtofpegbpgkkgkaaGreatDoor
