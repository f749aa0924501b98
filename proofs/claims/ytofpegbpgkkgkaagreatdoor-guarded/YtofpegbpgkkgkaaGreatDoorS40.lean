import Derived.Test.YtofpegbpgkkgkaaGreatDoorS38
import Derived.Test.YtofpegbpgkkgkaaGreatDoorS39
namespace Go.Proofs.YtofpegbpgkkgkaaGreatDoor
set_option maxHeartbeats 8000000
set_option maxRecDepth 1000000
open Go.RowKit
theorem yy {P:Program} {t e:TypeId} {i:TypeInfo} {z:Value} {a:Nat} (H:P.underlying t=some (.slice e)) (G:P.info? e=some i) (J:i.zero=some z) (h:i.size=5) (s:i.bytes=a) (x:z.cells.size=5)
  (w W:World) (v:Value) (n:Nat) (p:List Value) (C:Array Value) (m:w.ownsRow 0 e 5 v n p) (D:C.size=5) (I:∀u∈C.toList,u.oneCell'=true) (r:Below w.heap.size w W) (F:W.heap[w.heap.size]? =some (.cells C e (0,0))) (q:n+1≤maxLen) (d:(n+1) * a≤140737488355328):
  ∃g b o,(Builtin.append_ #[t,t] t #[v,.slice (some ⟨w.heap.size,0,none⟩) 1 1]).run P W= .ok (.slice (some ⟨g,0,none⟩) (n+1) b) o∧o.ownsRow 0 e 5 (.slice (some ⟨g,0,none⟩) (n+1) b) (n+1) (p++C.toList)∧aF (fun k=>v.ownBlock=some k) w o∧(v.ownBlock=some g∨w.heap.size≤g):=by
 have f:W.ownsRow 0 e 5 v n p:=ax m fun g y e _=>ae r e;obtain ⟨g,b,o,A,B,j⟩:=gj (P:=P) W t t 0 e i z 5 a H G J h s x (by decide) v n p f ⟨w.heap.size,0,none⟩ 1 1 C.toList (by simpa using D) (World.news_of_block (cs:=C) (t:=e) (fr:=(0,0)) F) I (by decide) q d (Nat.zero_le _);refine ⟨g,b,o,A,B,?_,?_⟩
 ·refine (aF.below r:aF (fun k=>v.ownBlock=some k) w W).trans (A1:=fun k=>v.ownBlock=some k) ?_ (fun k _ e=>e)
  rcases j with ⟨l,j⟩ | ⟨_,j⟩
  ·exact (aF.grown j).mono fun k _ e=>l.trans e
  ·exact (aF.grown j).mono fun k _ e=>by cases e
 ·rcases j with ⟨l,_⟩ | ⟨l,_⟩
  ·exact .inl l
  ·exact .inr (by rw [l];exact r.size)
section
variable {E own:Nat→Prop} {pp gb:Nat} {c:bT} {w w3:World} {vS vM:Value} {sl:List (bV×Value)} {ml:List (aR×Value)} {g g' g'':GS}
theorem gL.addM (h:gL E own pp gb c w vS vM sl ml g) {b a:Nat} {m:aR} {v:Value} (q:w3.ownsRow 0 45 5 (.slice (some ⟨b,0,none⟩) (ml.length+1) a) (ml.length+1) (fv ml++(aV m v).toList)) (o:aF (fun k=>vM.ownBlock=some k) w w3) (G:vM.ownBlock=some b∨w.heap.size≤b) (H:ib E own gb vS vM w m.tos v):
  gL E own pp gb c (w3.setCell ⟨gb,11,none⟩ (.slice (some ⟨b,0,none⟩) (ml.length+1) a)) vS (.slice (some ⟨b,0,none⟩) (ml.length+1) a) sl (ml++[(m,v)]) {g with mails:=g.mails++[m]}∧aF (fM gb vS vM) w (w3.setCell ⟨gb,11,none⟩ (.slice (some ⟨b,0,none⟩) (ml.length+1) a)):=by
 obtain ⟨C,t,u,y,z,I,A,B⟩:=h.blk;have l:w3.heap[gb]? =some (.cells C 41 (0,0)):=o.some_ t (fun e=>(h.tag).2 gb e rfl)
 have p:b≠gb:=fun e=>by
  obtain ⟨F,f⟩:=cX q (g:=b) rfl;rw [e,l] at f;injection f with f;injection f with _ f _;exact absurd f (by decide)
 obtain ⟨V,s⟩:∃V:Value,.slice (some ⟨b,0,none⟩) (ml.length+1) a=V:=⟨_,rfl⟩;have i:V.ownBlock=some b:=by rw [←s];rfl
 rw [s] at q ⊢;have d:aF (fun k=>k=gb) w3 (w3.setCell ⟨gb,11,none⟩ V):=aF.same ((aH.refl _ _).setCell _);have j:aF (fM gb vS vM) w (w3.setCell ⟨gb,11,none⟩ V):=(o.mono (fun k _ e=> .inr (.inr e))).trans d (fun k _ e=> .inl e);have D:=heap_setCell_same w3 gb 11 _ _ V l
 have r:=h.turn (vS':=vS) (vM':=V) (sl':=sl) (ml':=ml++[(m,v)]) (bad':=g.bad) j ⟨_,D,by simpa using u,by rw [Array.getElem?_setIfInBounds_ne (by decide)];exact y,by rw [Array.getElem?_setIfInBounds_ne (by decide)];exact z,by rw [Array.getElem?_setIfInBounds_self_of_lt (by omega)],by rw [Array.getElem?_setIfInBounds_ne (by decide)];exact A,by rw [Array.getElem?_setIfInBounds_ne (by decide)];exact B⟩ (br (br h.srow o (fun k e=>(h.tag).1 k e |>.2)) d (fun k e=>((h.tag).1 k e).1)) (by
  rw [List.length_append,List.length_singleton,pe];exact br q d (fun k e x=>p (by rw [i] at e;injection e with e;rw [e];exact x))) (fun k e=>by
  rcases e with e | e | e
  ·exact .inl (.inl e)
  ·exact .inl (.inr (.inl e))
  ·rw [i] at e;injection e with e;rw [←e];exact G.imp (fun x=> .inr (.inr x)) id) h.stos (fun x n=>by
  rcases List.mem_append.1 n with n | n
  ·exact h.mtos x n
  ·rw [List.mem_singleton.1 n];exact H)
 rw [h.seq,List.map_append,h.meq] at r;exact ⟨r,j⟩
theorem gL.addS (h:gL E own pp gb c w vS vM sl ml g) {b a:Nat} {x:bV} {v:Value} (p:w3.ownsRow 0 51 5 (.slice (some ⟨b,0,none⟩) (sl.length+1) a) (sl.length+1) (gz sl++cT x v)) (n:aF (fun k=>vS.ownBlock=some k) w w3) (G:vS.ownBlock=some b∨w.heap.size≤b) (H:ib E own gb vS vM w x.tos v):
  gL E own pp gb c (w3.setCell ⟨gb,10,none⟩ (.slice (some ⟨b,0,none⟩) (sl.length+1) a)) (.slice (some ⟨b,0,none⟩) (sl.length+1) a) vM (sl++[(x,v)]) ml {g with seats:=g.seats++[x]}∧aF (fM gb vS vM) w (w3.setCell ⟨gb,10,none⟩ (.slice (some ⟨b,0,none⟩) (sl.length+1) a)):=by
 obtain ⟨C,s,t,u,I,z,A,B⟩:=h.blk;have l:w3.heap[gb]? =some (.cells C 41 (0,0)):=n.some_ s (fun e=>((h.tag).1 gb e).1 rfl)
 have o:b≠gb:=fun e=>by
  obtain ⟨F,f⟩:=cX p (g:=b) rfl;rw [e,l] at f;injection f with f;injection f with _ f _;exact absurd f (by decide)
 obtain ⟨V,q⟩:∃V:Value,.slice (some ⟨b,0,none⟩) (sl.length+1) a=V:=⟨_,rfl⟩;have i:V.ownBlock=some b:=by rw [←q];rfl
 rw [q] at p ⊢;have d:aF (fun k=>k=gb) w3 (w3.setCell ⟨gb,10,none⟩ V):=aF.same ((aH.refl _ _).setCell _);have j:aF (fM gb vS vM) w (w3.setCell ⟨gb,10,none⟩ V):=(n.mono (fun k _ e=> .inr (.inl e))).trans d (fun k _ e=> .inl e);have D:=heap_setCell_same w3 gb 10 _ _ V l
 have r:=h.turn (vS':=V) (vM':=vM) (sl':=sl++[(x,v)]) (ml':=ml) (bad':=g.bad) j ⟨_,D,by simpa using t,by rw [Array.getElem?_setIfInBounds_ne (by decide)];exact u,by rw [Array.getElem?_setIfInBounds_self_of_lt (by omega)],by rw [Array.getElem?_setIfInBounds_ne (by decide)];exact z,by rw [Array.getElem?_setIfInBounds_ne (by decide)];exact A,by rw [Array.getElem?_setIfInBounds_ne (by decide)];exact B⟩ (by
  rw [List.length_append,List.length_singleton,xT];exact br p d (fun k e x=>o (by rw [i] at e;injection e with e;rw [e];exact x))) (br (br h.mrow n (fun k e x=>((h.tag).1 k x).2 e)) d (fun k e=>(h.tag).2 k e)) (fun k e=>by
  rcases e with e | e | e
  ·exact .inl (.inl e)
  ·rw [i] at e;injection e with e;rw [←e];exact G.imp (fun x=> .inr (.inl x)) id
  ·exact .inl (.inr (.inr e))) (fun y m=>by
  rcases List.mem_append.1 m with m | m
  ·exact h.stos y m
  ·rw [List.mem_singleton.1 m];exact H) h.mtos
 rw [h.meq,List.map_append,h.seq] at r;exact ⟨r,j⟩
end
theorem DH:(Tryz.prog.info? 51).map (fun i=>(i.zero,i.size,i.bytes))=some (some (.agg #[.int .i64 0,.bool false,.bool false,.bool false,.slice none 0 0]),5,40):=by kernel_rfl
section
variable {E own:Nat→Prop} {pp gb:Nat} {c:bT} {w:World} {vS vM:Value} {sl:List (bV×Value)} {ml:List (aR×Value)} {g:GS}
theorem gL.appM (h:gL E own pp gb c w vS vM sl ml g) {m:aR} {v:Value} (y:v.oneCell'=true) (x:ib E own gb vS vM w m.tos v) (I:ml.length≤1048576):∃b a w3,(Builtin.append_ #[35,35] 35 #[vM,.slice (some ⟨w.heap.size,0,none⟩) 1 1]).run Tryz.prog (w.alloc (.cells (aV m v) 45))= .ok (.slice (some ⟨b,0,none⟩) (ml.length+1) a) w3∧w3.cell? ⟨gb,11,none⟩=some vM∧w3.frozen? ⟨gb,11,none⟩=false∧gL E own pp gb c (w3.setCell ⟨gb,11,none⟩ (.slice (some ⟨b,0,none⟩) (ml.length+1) a)) vS (.slice (some ⟨b,0,none⟩) (ml.length+1) a) sl (ml++[(m,v)]) {g with mails:=g.mails++[m]}∧aF (fM gb vS vM) w (w3.setCell ⟨gb,11,none⟩ (.slice (some ⟨b,0,none⟩) (ml.length+1) a))∧(vM.ownBlock=some b∨w.heap.size≤b):=by
 obtain ⟨i,t,f,j,k⟩:=info_parts vL
 obtain ⟨b,a,w3,z,A,n,o⟩:=yy (P:=Tryz.prog) Tryz.underlying35 t f j k rfl w (w.alloc (.cells (aV m v) 45)) vM ml.length (fv ml) (aV m v) h.mrow rfl (by
  intro u l;simp only [aV,List.mem_cons,List.not_mem_nil,or_false] at l
  rcases l with rfl | rfl | rfl | rfl | rfl
  ·rfl
  ·rfl
  ·rfl
  ·exact y
  ·rfl) ((Below.refl _ _).alloc (Nat.le_refl _) _) (heap_alloc_new w _) (by unfold maxLen;omega) (by omega)
 obtain ⟨p,q⟩:=h.addM A n o x;obtain ⟨C,r,B,D,F,s,G,H⟩:=h.blk;have d:w3.heap[gb]? =some (.cells C 41 (0,0)):=n.some_ r (fun e=>(h.tag).2 gb e rfl);exact ⟨b,a,w3,z,by rw [Lib.cell_of_heap d];exact s,Lib.frozen_of_heap d 11,p,q,o⟩
theorem gL.appS (h:gL E own pp gb c w vS vM sl ml g) (a:Int) (H:sl.length≤1048576):∃d b w3,(Builtin.append_ #[39,39] 39 #[vS,.slice (some ⟨w.heap.size,0,none⟩) 1 1]).run Tryz.prog (w.alloc (.cells #[.int .i64 a,.bool false,.bool false,.bool false,.slice none 0 0] 51))= .ok (.slice (some ⟨d,0,none⟩) (sl.length+1) b) w3∧w3.cell? ⟨gb,10,none⟩=some vS∧w3.frozen? ⟨gb,10,none⟩=false∧gL E own pp gb c (w3.setCell ⟨gb,10,none⟩ (.slice (some ⟨d,0,none⟩) (sl.length+1) b)) (.slice (some ⟨d,0,none⟩) (sl.length+1) b) vM (sl++[(⟨a,false,false,false,[]⟩,.slice none 0 0)]) ml {g with seats:=g.seats++[⟨a,false,false,false,[]⟩]}∧aF (fM gb vS vM) w (w3.setCell ⟨gb,10,none⟩ (.slice (some ⟨d,0,none⟩) (sl.length+1) b))∧(vS.ownBlock=some d∨w.heap.size≤d):=by
 obtain ⟨i,t,j,k,l⟩:=info_parts DH
 obtain ⟨d,b,w3,y,z,n,o⟩:=yy (P:=Tryz.prog) Tryz.underlying39 t j k l rfl w (w.alloc (.cells #[.int .i64 a,.bool false,.bool false,.bool false,.slice none 0 0] 51)) vS sl.length (gz sl) #[.int .i64 a,.bool false,.bool false,.bool false,.slice none 0 0] h.srow rfl (by
  intro u m;simp only [List.mem_cons,List.not_mem_nil,or_false] at m
  rcases m with rfl | rfl | rfl | rfl | rfl <;> rfl) ((Below.refl _ _).alloc (Nat.le_refl _) _) (heap_alloc_new w _) (by unfold maxLen;omega) (by omega)
 obtain ⟨p,q⟩:=h.addS (x:=⟨a,false,false,false,[]⟩) (v:= .slice none 0 0) z n o (ib.nil _);obtain ⟨C,r,A,B,s,D,F,G⟩:=h.blk;have f:w3.heap[gb]? =some (.cells C 41 (0,0)):=n.some_ r (fun e=>((h.tag).1 gb e).1 rfl);exact ⟨d,b,w3,y,by rw [Lib.cell_of_heap f];exact s,Lib.frozen_of_heap f 10,p,q,o⟩
end
def cY (E own:Nat→Prop) (pp gb:Nat) (c:bT) (w:World) (vS vM:Value) (g':GS) (w':World):Prop:=
 ∃own' vS' vM' sl' ml',gL E own' pp gb c w' vS' vM' sl' ml' g'∧(∀k,own' k∨fM gb vS' vM' k→own k∨fM gb vS vM k∨w.heap.size≤k)∧aF (fun k=>k=pp∨own k∨fM gb vS vM k) w w'
section
variable {E own own1:Nat→Prop} {pp gb:Nat} {c:bT} {w w1 w2:World} {vS vM vS1 vM1:Value} {sl sl1:List (bV×Value)} {ml ml1:List (aR×Value)} {g g':GS}
theorem cY.refl (h:gL E own pp gb c w vS vM sl ml g):cY E own pp gb c w vS vM g w:=⟨own,vS,vM,sl,ml,h,fun _ e=>e.imp id .inl,aF.refl _ _⟩
theorem cY.below (h:gL E own pp gb c w vS vM sl ml g) (a:Below w.heap.size w w1):cY E own pp gb c w vS vM g w1:=⟨own,vS,vM,sl,ml,h.below a,fun _ e=>e.imp id .inl,aF.below a⟩
theorem cY.from (j:Below w.heap.size w w1) (h:cY E own pp gb c w1 vS vM g' w2):cY E own pp gb c w vS vM g' w2:=by
 obtain ⟨a,i,f,d,b,l,m,n⟩:=h
 exact ⟨a,i,f,d,b,l,fun k e=>by
  rcases m k e with x | x | x
  ·exact .inl x
  ·exact .inr (.inl x)
  ·exact .inr (.inr (Nat.le_trans j.size x)),(aF.below j).trans n (fun _ _ e=>e)⟩
theorem cY.then (d:∀k,own1 k∨fM gb vS1 vM1 k→own k∨fM gb vS vM k∨w.heap.size≤k) (m:aF (fun k=>k=pp∨own k∨fM gb vS vM k) w w1) (h:cY E own1 pp gb c w1 vS1 vM1 g' w2):cY E own pp gb c w vS vM g' w2:=by
 obtain ⟨b,l,j,i,f,n,o,p⟩:=h
 have a:∀k,own1 k∨fM gb vS1 vM1 k∨w1.heap.size≤k→own k∨fM gb vS vM k∨w.heap.size≤k:=fun k e=>by
  rcases e with e | e | e
  ·exact d k (.inl e)
  ·exact d k (.inr e)
  ·exact .inr (.inr (Nat.le_trans m.size e))
 refine ⟨b,l,j,i,f,n,fun k e=>a k (o k e),m.trans p (fun k q e=>?_)⟩
 rcases e with e | e | e
 ·exact .inl e
 ·rcases d k (.inl e) with x | x | x
  ·exact .inr (.inl x)
  ·exact .inr (.inr x)
  ·omega
 ·rcases d k (.inr e) with x | x | x
  ·exact .inr (.inl x)
  ·exact .inr (.inr x)
  ·omega
theorem cY.turned (a:aF (fM gb vS vM) w w1) (b:∀k,fM gb vS1 vM1 k→fM gb vS vM k∨w.heap.size≤k) (h:cY E own pp gb c w1 vS1 vM1 g' w2):cY E own pp gb c w vS vM g' w2:=
 cY.then (fun k e=>e.elim .inl (fun e=> .inr (b k e))) (a.mono (fun _ _ e=> .inr (.inr e))) h
theorem cY.called (b:∀k,own1 k→own k∨w.heap.size≤k) (a:aF (fun k=>k=pp∨own k) w w1) (h:cY E own1 pp gb c w1 vS vM g' w2):cY E own pp gb c w vS vM g' w2:=
 cY.then (fun k e=>e.elim (fun e=>(b k e).imp id .inr) (fun e=> .inr (.inl e))) (a.mono (fun _ _ e=>e.imp id .inl)) h
end
theorem En {w:World} {b n d:Nat} {a:Array Value} {t:TypeId} {z:Nat×Nat} (h:w.heap[b]? =some (.cells a t z)) (e:a.size=n * d):aZ w (.slice (some ⟨b,0,none⟩) n n) n d a.toList:=by
 refine ⟨by simpa using e,.inr ⟨b,0,n,rfl,Nat.le_refl _,fun j f=>?_⟩⟩
 rw [Nat.zero_add,Lib.cell_of_heap h,Array.getElem?_toList]
theorem uC (w:World):Calls Tryz.prog 31 #[] w fun e a=>∃v,e= .returned v∧aZ a v 32 1 (az j4)∧Below w.heap.size w a:=by
 go_enter Tryz.func31,Tryz.ntmps31;go_wp2_with fail
 go_ret;refine ⟨_,rfl,?_,(Below.refl _ _).alloc (Nat.le_refl _) _⟩;exact En (heap_alloc_new w _) rfl
theorem yT (c:UInt8):∀l:List UInt8,(bS c l).1.length+(bS c l).2.1.length≤l.length
 | []=>Nat.le_refl _
 | b::r=>by
  have:=yT c r
  by_cases a:b=c
  ·simp [bS,a]
  ·simp only [bS,a,if_false,List.length_cons];omega
theorem AA (l:List UInt8):(eh l).1.length+(eh l).2.1.length≤l.length:=by
 unfold eh
 split
 ·have:=yT 64 l;simpa [Lib.toLowerA] using this
 ·simp
theorem oW (l:List UInt8) (m:Int) (w:World) (A:10≤l.length) (B:l.length≤1000) (k:w.cell? ⟨0,0,none⟩=some (.int .i64 m)):
  Calls Tryz.prog 56 #[.string (bs l)] w fun e u=>e= .returned (.string (bs (fL l)))∧Below w.heap.size w u:=by
 have F:=aI l;obtain ⟨t,b⟩:∃t,(l.take (l.length - 1)).drop 9=t:=⟨_,rfl⟩;have D:(bs l).extract 9 (l.length - 1)=bs t:=by rw [gw,b]
 have d:=yx (bs t) m w (by rw [aI,←b,List.length_drop,List.length_take];omega) k;rw [aQ] at d;have n:=Lib.hid d;have q:Hid (fL l=(eh t).1++[64]++(eh t).2.1):=Lib.hid (by unfold fL;rw [b]);have C:IntKind.i64.wrap ((l.length:Int) - 1)=((l.length - 1:Nat):Int):=by rw [IntKind.wrap_i64];omega
 have v:(9:Int)≤((l.length - 1:Nat):Int):=by omega
 have z:((l.length - 1:Nat):Int)≤(l.length:Int):=by omega
 have i:Hid (t.length≤1000):=Lib.hid (by rw [←b,List.length_drop,List.length_take];omega);clear b d k;go_enter Tryz.func56,Tryz.ntmps56;go_wp2_with fail
 refine n.out.mono ?_;rintro e G ⟨x,y,f,rfl,h,j⟩;have a:=AA t;rw [h] at a;have r:x.size≤1000:=by have e:x.data.toList.length=x.size:=fq x;have:=i.out;simp only at a;omega
 have s:y.size≤1000:=by have e:y.data.toList.length=y.size:=fq y;have:=i.out;simp only at a;omega
 have p:=Lib.hid h;have o:=Lib.hid j;clear h j a;go_wp2_with fail
 go_ret;refine ⟨?_,o.out⟩;rw [q.out,p.out,←ca,←ca];rfl
section
variable {E own:Nat→Prop} {pp gb:Nat} {c:bT} {w:World} {vS vM:Value} {sl:List (bV×Value)} {ml:List (aR×Value)} {g:GS}
theorem gY (h:gL E own pp gb c w vS vM sl ml g) (n:Int) (N: -9223372036854775808≤n) (O:n≤9223372036854775807) (T:sl.length≤100):
  Calls Tryz.prog 30 #[.pointer (some ⟨gb,0,none⟩),.int .i64 n] w fun e l=>∃r:Int,e= .returned (.int .i64 r)∧(r= -1∨∃k:Nat,r=k∧∃v:k < sl.length,sl[k].1.closed=false)∧Below w.heap.size w l:=by
 have F:gb < w.heap.size:=(h.off gb (.inl rfl)).1;have f:=h.cells.2.1;obtain ⟨a,o,D⟩:=aE (aC h.srow);rw [D] at f
 have M:Hid (∀k (v:k < sl.length),∃sb,a=some ⟨sb,0,none⟩∧sb < w.heap.size∧w.cell? ⟨sb,k * 5+3,none⟩=some (.bool sl[k].1.closed)):=Lib.hid fun k v=>by
  obtain ⟨sb,I,e,P,_⟩:=h.seat v;have J:=D;rw [e] at J;injection J with e1 _ _;exact ⟨sb,e1.symm,(j6 h.srow (by rw [e];rfl)).2,P 3 (by decide)⟩
 have x:=Lib.hid f;clear h f D;go_enter Tryz.func30,Tryz.ntmps30;go_wp2_with fail
 go_loopw [5] (fun i l=>∃k:Nat,k≤sl.length∧i= .int .i64 k∧Hid (Below w.heap.size w l)) (fun i _=>sl.length - (intOf i).toNat)
 case atStart=>exact ⟨0,Nat.zero_le _,rfl,Lib.hid (Below.refl _ _)⟩
 case round=>
  obtain ⟨k,v,rfl,m⟩:=hrel;have B:wr.cell? ⟨gb,10,none⟩=some (.slice a sl.length o):=(m.out.cell F).trans x.out
  by_cases q:k < sl.length
  ·have s:(k:Int) < (sl.length:Int):=by omega
   obtain ⟨p,C⟩:∃p,cx n (sl.length:Int)=p:=⟨_,rfl⟩;have H:=cO n (n:=(sl.length:Int)) (by omega);rw [C] at H;have z:Hid (∀W:World,Calls Tryz.prog 20 #[.int .i64 n,.int .i64 (sl.length:Int)] W fun e l=>e= .returned (.int .i64 p)∧W=l):=Lib.hid (fun W=>by have:=bZ n (sl.length:Int) W N O (by omega) (by omega);rw [C] at this;exact this)
   obtain ⟨d,K⟩:∃d:Nat,(p+(k:Int)).tmod (sl.length:Int)=(d:Int):=⟨((p+(k:Int)) % (sl.length:Int)).toNat,by
    rw [Int.tmod_eq_emod_of_nonneg (by omega)];have:=Int.emod_nonneg (p+(k:Int)) (show (sl.length:Int)≠0 by omega)
    omega⟩
   have t:d < sl.length:=by
    have:=Int.emod_lt_of_pos (p+(k:Int)) (show (0:Int) < sl.length by omega);rw [Int.tmod_eq_emod_of_nonneg (by omega)] at K;omega
   have U:IntKind.i64.wrap (p+(k:Int))=p+(k:Int):=by rw [IntKind.wrap_i64];omega
   have Q:¬(sl.length:Int)=0:=by omega
   have R:(d:Int) < (sl.length:Int):=by omega
   have L:¬sl=[]:=fun e=>by rw [e] at q;cases q
   have X:IntKind.i64.wrap ((p+(k:Int)).tmod (sl.length:Int))=(d:Int):=by rw [K,IntKind.wrap_i64];omega
   have Y:IntKind.i64.wrap (d:Int)=(d:Int):=by rw [IntKind.wrap_i64];omega
   obtain ⟨sb,rfl,G,b⟩:=M.out d t;obtain ⟨u,j⟩:∃u,sl[d].1.closed=u:=⟨_,rfl⟩;rw [j] at b;have S:wr.cell? ⟨sb,d * 5+3,none⟩=some (.bool u):=(m.out.cell G).trans b;have y:=Lib.hid j;have A:=Lib.hid t;clear C H b j;go_wp2_with fail
   go_region_held3 (fun l=>l.cell? ⟨gb,10,none⟩=some (.slice (some ⟨sb,0,none⟩) sl.length o)) (exact B)
    (first | (go_at_call 20;refine (z.out _).mono ?_;rintro e V ⟨rfl,rfl⟩))
   cases u with
   | false=>
    go_wp2_with fail
    go_ret;exact ⟨d,rfl,.inr ⟨d,rfl,A.out,y.out⟩,m.out.drew⟩
   | true=>
    go_wp2_with fail
    exact ⟨⟨k+1,by omega,by go_num,Lib.hid m.out.drew⟩,by simp [intOf];omega⟩
  ·have s:¬(k:Int) < (sl.length:Int):=by omega
   go_wp2_with fail
   go_ret;exact ⟨-1,rfl,.inl rfl,m.out⟩
theorem oY (h:gL E own pp gb c w vS vM sl ml g) {k:Nat} (hk:k < sl.length) {x:bV} {v:Value} (hx:sl[k]=(x,v)) (ha:0≤x.addr∧x.addr < 1000) {ml0:List (aR×Value)} {m:aR} {u:Value} (hm:ml=ml0++[(m,u)]) (b6:ml.length≤1048576) (hz:m.tos.length≤255) (a6:∀t∈m.tos,t.length≤255) (H:∀t∈m.tos,tg x t=true) (_:sl.length≤100):
  Calls Tryz.prog 54 #[.pointer (some ⟨gb,0,none⟩),.int .i64 (k:Int)] w fun e w'=>e= .returned (.tuple #[])∧Below w.heap.size w w':=by
 have z:=h.cells.2.1;have B:=h.cells.2.2.1;obtain ⟨sb,b8,ev,O,_⟩:=h.seat hk;rw [hx] at O;rw [ev] at z;have s0:w.cell? ⟨sb,k * 5,none⟩=some (.int .i64 x.addr):=O 0 (by decide);have s1:w.cell? ⟨sb,k * 5+1,none⟩=some (.bool x.known):=O 1 (by decide);have s2:w.cell? ⟨sb,k * 5+2,none⟩=some (.bool x.inside):=O 2 (by decide);have s3:w.cell? ⟨sb,k * 5+3,none⟩=some (.bool x.closed):=O 3 (by decide);have s4:w.cell? ⟨sb,k * 5+4,none⟩=some v:=O 4 (by decide);obtain ⟨av,cv,C⟩:=aE (h.stos (x,v) (by rw [←hx];exact List.getElem_mem hk)).row;have C:v= .slice av x.tos.length cv:=C;rw [C] at s4;have I:ml.length=ml0.length+1:=by rw [hm,List.length_append];rfl
 obtain ⟨s,K,q,em,a3,F⟩:∃s K q,vM= .slice (some ⟨s,0,none⟩) ml.length K∧w.heap[s]? =some (.cells q 45 (0,0))∧q.toList.take (ml.length * 5)=fv ml:=by
  rcases h.mrow.2 with ⟨_,h0⟩ | ⟨g',cp,q,e,_,hg,_,_,_,F⟩
  ·omega
  ·exact ⟨g',cp,q,e,hg,F⟩
 have R:∀i,i < 5→w.cell? ⟨s,ml0.length * 5+i,none⟩=(aV m u)[i]? :=fun i hi=>by
  rw [Lib.cell_of_heap a3,←Array.getElem?_toList,←List.getElem?_take_of_lt (show ml0.length * 5+i < ml.length * 5 by omega),F,la _ _ _ (by omega) hi];have e:ml[ml0.length]'(by omega)=(m,u):=by simp [hm]
  rw [e]
 rw [em] at B;have ht:=(h.mtos (m,u) (by rw [hm];simp)).row;obtain ⟨p,ct,eu,J⟩:=ht.one;have m0:w.cell? ⟨s,ml0.length * 5,none⟩=some (.int .i64 m.id):=R 0 (by decide);have m1:w.cell? ⟨s,ml0.length * 5+1,none⟩=some (.int .i64 m.time):=R 1 (by decide);have m2:w.cell? ⟨s,ml0.length * 5+2,none⟩=some (.string (bs m.frm)):=R 2 (by decide);have m3:w.cell? ⟨s,ml0.length * 5+3,none⟩=some (.slice p m.tos.length ct):=by rw [R 3 (by decide)];exact congrArg some eu
 have m4:w.cell? ⟨s,ml0.length * 5+4,none⟩=some (.string (bs m.body)):=R 4 (by decide)
 have a9:Hid (∀j (hj:j < m.tos.length),∃b o,p=some ⟨b,o,none⟩∧b < w.heap.size∧w.cell? ⟨b,o+j,none⟩=some (.string (bs m.tos[j]))):=Lib.hid fun j hj=>by
  obtain ⟨b,o,e,hb,b3⟩:=J j hj;exact ⟨b,o,e,hb,by rw [b3,dh _ _ hj]⟩
 have HA:=Lib.hid H;have b0:=Lib.hid a6;have S:=Lib.hid ha;have b4:(k:Int) < (sl.length:Int):=by omega
 have a7:IntKind.i64.wrap ((ml.length:Int) - 1)=(ml0.length:Int):=by rw [I,IntKind.wrap_i64];omega
 have a4:(ml0.length:Int) < (ml.length:Int):=by omega
 obtain ⟨n0,Y⟩:∃n,ml0.length=n:=⟨_,rfl⟩;obtain ⟨n1,Z⟩:∃n,ml.length=n:=⟨_,rfl⟩;obtain ⟨n2,a0⟩:∃n,sl.length=n:=⟨_,rfl⟩;rw [Y] at m0 m1 m2 m3 m4 a7 a4;rw [Z] at B a7 a4;rw [a0] at z b4;have b7:sb < w.heap.size:=aA s0;have f:s < w.heap.size:=aA m0;have a1:gb < w.heap.size:=aA z;clear C h O hx hm b6 I F a3 R ht eu J H a6 ha Y Z a0 hk ev em;obtain ⟨A,eA⟩:∃A,x.addr.tdiv 256=A:=⟨_,rfl⟩;have hA:A=x.addr / 256:=by rw [←eA];exact Int.tdiv_eq_ediv_of_nonneg S.out.1
 have b2:0≤A∧A < 1000:=by have:=S.out;omega
 have wA:IntKind.i64.wrap A=A:=by rw [IntKind.wrap_i64];omega
 have a8:=Lib.hid hA;clear hA b2;go_enter Tryz.func54,Tryz.ntmps54;go_wp2_with fail
 obtain ⟨M,r⟩:∃W:World,w.alloc (.cells #[.int .i64 x.addr,.bool x.known,.bool x.inside,.bool x.closed,.slice av x.tos.length cv] 51)=W:=⟨_,rfl⟩;have Q:M.heap[w.heap.size]? =some (.cells #[.int .i64 x.addr,.bool x.known,.bool x.inside,.bool x.closed,.slice av x.tos.length cv] 51 (0,0)):=by rw [←r];exact heap_alloc_new w _
 have G:Below w.heap.size w M:=by rw [←r];exact (Below.refl _ _).alloc (Nat.le_refl _) _
 have z0:M.heap.size=w.heap.size+1:=by rw [←r];simp
 rw [r];have b1:=(G.cell a1).trans B;have e0:=(G.cell f).trans m0;have e1:=(G.cell f).trans m1;have e2:=(G.cell f).trans m2;have e3:=(G.cell f).trans m3;have e4:=(G.cell f).trans m4;have L:=Lib.hid G;have V:=Lib.hid Q;clear r G Q z B s0 s1 s2 s3 s4 m0 m1 m2 m3 m4;go_region
 obtain ⟨N,D⟩:∃W:World,(M.alloc (.cells #[.int .i64 m.id,.int .i64 m.time,.string (bs m.frm),.slice p m.tos.length ct,.string (bs m.body)] 45)).drew=W:=⟨_,rfl⟩;have X1:N.heap[w.heap.size+1]? =some (.cells #[.int .i64 m.id,.int .i64 m.time,.string (bs m.frm),.slice p m.tos.length ct,.string (bs m.body)] 45 (0,0)):=by rw [←D,←z0];exact heap_alloc_new M _
 have B1:Below M.heap.size M N:=by rw [←D];exact ((Below.refl _ _).alloc (Nat.le_refl _) _).drew
 rw [D];have Q:=ae B1 V.out;have f3:N.cell? ⟨w.heap.size+1,3,none⟩=some (.slice p m.tos.length ct):=by rw [Lib.cell_of_heap X1];rfl
 have f0:N.cell? ⟨w.heap.size,0,none⟩=some (.int .i64 x.addr):=by rw [Lib.cell_of_heap Q];rfl
 have f1:N.cell? ⟨w.heap.size,1,none⟩=some (.bool x.known):=by rw [Lib.cell_of_heap Q];rfl
 have T:=Lib.hid (L.out.trans (B1.mono L.out.size));clear D Q X1 B1 V L b1 e0 e1 e2 e3 e4;go_wp2_with fail
 go_loop [6] (fun i=>∃j:Nat,j≤m.tos.length∧i= .int .i64 j) (fun i=>m.tos.length - (intOf i).toNat)
 case atStart=>exact ⟨0,Nat.zero_le _,rfl⟩
 case round=>
  obtain ⟨j,hj,rfl⟩:=hrel
  by_cases P:j < m.tos.length
  ·have a2:(j:Int) < (m.tos.length:Int):=by omega
   obtain ⟨b,o,rfl,hb,l⟩:=a9.out j P;have l:N.cell? ⟨b,o+j,none⟩=some (.string (bs m.tos[j])):=(T.out.cell hb).trans l;have a:=HA.out m.tos[j] (List.getElem_mem P);have a5:=b0.out m.tos[j] (List.getElem_mem P)
   generalize m.tos[j]=t at l a a5
   have HD:=sU (bs t) N (by rw [aI];omega);rw [aQ] at HD;unfold tg vJ at a;obtain ⟨d,ed⟩:∃d,Dr t=d:=⟨_,rfl⟩;rw [ed] at HD a;have y:=Lib.hid HD;obtain ⟨kn,X⟩:∃kn,x.known=kn:=⟨_,rfl⟩;rw [X] at a f1;rw [←a8.out] at a;have U:=Lib.hid a;clear HD a ed a5 X
   by_cases d1:d=[97,46,111,114,103]
   ·subst d1;go_wp2_with fail
    refine y.out.mono ?_;rintro e w2 ⟨rfl,rfl⟩;go_wp2_with fail
    exact ⟨⟨j+1,by omega,by go_num⟩,by simp [intOf];omega⟩
   ·by_cases d2:d=[98,46,110,101,116]
    ·subst d2;go_wp2_with fail
     refine y.out.mono ?_;rintro e w2 ⟨rfl,rfl⟩;go_wp2_with fail
     exact ⟨⟨j+1,by omega,by go_num⟩,by simp [intOf];omega⟩
    ·by_cases d3:A=1
     ·subst d3;go_wp2_with fail
      refine y.out.mono ?_;rintro e w2 ⟨rfl,rfl⟩;go_wp2_with fail
      exact ⟨⟨j+1,by omega,by go_num⟩,by simp [intOf];omega⟩
     ·have b5:kn=true:=by
       have h:=U.out;unfold IM IU at h;rw [beq_eq_false_iff_ne.2 d1,beq_eq_false_iff_ne.2 d2,decide_eq_false d3] at h;simpa using h
      subst b5;go_wp2_with fail
      refine y.out.mono ?_;rintro e w2 ⟨rfl,rfl⟩;go_wp2_with fail
      exact ⟨⟨j+1,by omega,by go_num⟩,by simp [intOf];omega⟩
  ·have a2:¬(j:Int) < (m.tos.length:Int):=by omega
   go_wp2_with fail
   refine bodyPost_end (results_none rfl _ _ _) rfl ?_;exact ⟨rfl,T.out⟩
end
section
variable {E own:Nat→Prop} {pp gb:Nat} {c:bT} {w:World} {vS vM:Value} {sl:List (bV×Value)} {ml:List (aR×Value)} {g:GS} {n:Nat} {s:bA} {x:bV} {l:List UInt8}
def fB (c:bT) (g:GS) (n:Nat) (s:bA) (l:List UInt8):GS:={g with S:=(aO c s g.S g.recs l false).2.1,recs:=(aO c s g.S g.recs l false).2.2.1,l:=g.l.set n (if (aO c s g.S g.recs l false).1.over then none else some (aO c s g.S g.recs l false).1),d:=qU g.S (aO c s g.S g.recs l false).2.1 g.d}
structure EO (E own:Nat→Prop) (pp gb:Nat) (c:bT) (w:World) (vS vM:Value) (sl:List (bV×Value)) (ml:List (aR×Value)) (g:GS) (n:Nat) (s:bA) (l:List UInt8) (own1:Nat→Prop) (w1:World):Prop where
 at_:gL E own1 pp gb c w1 vS vM sl ml (fB c g n s l)
 ho:∀k,own1 k→own k∨w.heap.size≤k
 hc:aF (fun k=>k=pp∨own k) w w1
theorem pV (h:gL E own pp gb c w vS vM sl ml g) (t:g.l[n]? =some (some s)) (f:rO l) (b:jV x s):
  Calls Tryz.prog 14 #[.pointer (some ⟨pp,0,none⟩),.int .i64 (n:Int),.string (bs l++⟨#[13,10]⟩)] w fun e u=>e= .returned (.tuple #[.string (bs (aO c s g.S g.recs l false).2.2.2.flatten),.int .i64 0])∧∃a,EO E own pp gb c w vS vM sl ml g n s l a u:=by
 obtain ⟨m,o,p⟩:=xM f.ok;have d:=h.post.recv n t (l++[13,10]) (by rw [List.length_append];simp only [List.length_cons,List.length_nil];omega);rw [DF c s g.S g.recs f.ok b.over b.wait,←ca] at d;refine d.mono ?_;rintro e v ⟨rfl,r⟩;have q:=sI c s g.S g.recs l false;obtain ⟨a,i,j,k⟩:=h.call r q.time;exact ⟨rfl,a,i,j,k⟩
theorem pz (h:gL E own pp gb c w vS vM sl ml g) (d:g.seats[n]? =some x):∃b:n < sl.length,∃v,sl[n]=(x,v):=by
 obtain ⟨b,e⟩:=List.getElem?_eq_some_iff.1 d;have a:n < sl.length:=by rw [h.slen];exact b
 refine ⟨a,sl[n].2,?_⟩;have:(sl.map (·.1))[n]? =some x:=by rw [h.seq];exact d
 rw [List.getElem?_map,List.getElem?_eq_getElem a] at this;have e:sl[n].1=x:=by simpa using this
 rw [←e]
theorem Ab {α:Type} {l:List α} {n:Nat} {x:α} (h:l[n]? =some x):l.set n x=l:=by
 apply List.ext_getElem?;intro i
 by_cases e:n=i
 ·subst e;obtain ⟨a,_⟩:=List.getElem?_eq_some_iff.1 h;rw [List.getElem?_set_self a,h]
 ·rw [List.getElem?_set_ne e]
theorem bI (l:List UInt8) (f:l.length≤100) (t:ByteArray) (h:t.size≤100) (b:Bool) (a:bh l t.data.toList=b) (W:World):Calls Tryz.prog 53 #[.string (bs l),.string t] W fun e d=>e= .returned (.bool b)∧W=d:=by
 have:=sR (bs l) t W (by rw [aI];omega) (by omega);rw [aQ,a] at this;exact this
theorem tv (l:List UInt8):∃a b d e:Bool,bh l [82,83,69,84]=a∧bh l [77,65,73,76]=b∧bh l [72,69,76,79]=d∧bh l [69,72,76,79]=e∧jF l=(a || b || d || e):=⟨_,_,_,_,rfl,rfl,rfl,rfl,rfl⟩
theorem Eo (L:eQ c) (h:gL E own pp gb c w vS vM sl ml g) (hi:iq g) (hs:g.l[n]? =some (some s)) (V:g.seats[n]? =some x) (hl:l∈LL) (m:x.inside=true) (u:l≠[46]):
  Calls Tryz.prog 32 #[.pointer (some ⟨gb,0,none⟩),.int .i64 (n:Int),.string (bs l)] w fun e w'=>e= .returned (.tuple #[])∧cY E own pp gb c w vS vM (fQ c g n s x l) w':=by
 have f:=rG hl;have p:jV x s:=hi.seat n x _ V hs;have j:=(xM f.ok).1;obtain ⟨U,v,hv⟩:=pz h V;have c0:=h.cells.1;have F:=h.cells.2.1;obtain ⟨sb,a7,ev,M,_⟩:=h.seat U;rw [ev] at F;have Z:=pV h hs f p;have eo:=(vQ (c:=c) (S:=g.S) (recs:=g.recs) (l:=l) p m).1 u;obtain ⟨q1,q2,q3⟩:=pT (S:=g.S) (recs:=g.recs) f L.doms p
 have eG:fQ c g n s x l=fB c g n s l:=by
  unfold fQ fB;rw [eo];have Q:gv x l []=x:=by unfold gv;rw [if_pos ⟨m,u⟩]
  have R:fy x l []=[]:=by unfold fy;rw [if_neg (fun e=>u e.2.1)]
  have T:cZ x l []=false:=by unfold cZ;rw [if_pos ⟨m,u⟩];rfl
  rw [Q,R,T,Ab V,List.append_nil,Bool.or_false]
 rw [eG];rw [eo] at Z;have D:=Lib.hid Z;have a3:(n:Int) < (sl.length:Int):=by omega
 have hz:=aI l;obtain ⟨r,y,O,W,Q,R,T,e4,_⟩:=tv l;obtain ⟨au,G⟩:∃b,bh l [65,85,84,72]=b:=⟨_,rfl⟩;obtain ⟨rc,I⟩:∃b,bh l [82,67,80,84]=b:=⟨_,rfl⟩;obtain ⟨qu,H⟩:∃b,bh l [81,85,73,84]=b:=⟨_,rfl⟩;have z:=Lib.hid (bI l j ⟨#[65,85,84,72]⟩ (by decide) au G);have A:=Lib.hid (bI l j ⟨#[82,67,80,84]⟩ (by decide) rc I);have B:=Lib.hid (bI l j ⟨#[81,85,73,84]⟩ (by decide) qu H);have C:=Lib.hid (bI l j ⟨#[82,83,69,84]⟩ (by decide) r Q);have P:=Lib.hid (bI l j ⟨#[77,65,73,76]⟩ (by decide) y R);have X:=Lib.hid (bI l j ⟨#[72,69,76,79]⟩ (by decide) O T);have A7:=Lib.hid (bI l j ⟨#[69,72,76,79]⟩ (by decide) W e4);have a6:=Lib.hid M;have HV:=Lib.hid hv;have HB:=Lib.hid hi.bad;have Y:=Lib.hid m;have a9:((bs l).toList == [46])=false:=by rw [ByteArray.toList_eq,aQ,beq_eq_false_iff_ne];exact u
 obtain ⟨N,eN⟩:∃N,sl.length=N:=⟨_,rfl⟩;rw [eN] at F a3;clear Z h hi hs V hl p f M hv q1 q2 q3 eo eG L Q R T e4 G I H eN m u;go_enter Tryz.func32,Tryz.ntmps32;go_wp2_with fail
 refine D.out.mono ?_;rintro e w1 ⟨rfl,a5,K⟩;have a0:=K.at_.cells.2.2.2.2.1;have a8:=K.at_.cells.2.2.2.2.2 13;obtain ⟨b1,_⟩:∃U:n < sl.length,True:=⟨U,trivial⟩;obtain ⟨b2,a4,J,q,_⟩:=K.at_.seat U;rw [ev] at J;injection J with ev1 _ _;injection ev1 with ev1;injection ev1 with ev1;subst ev1;have d2:w1.cell? ⟨sb,n * 5+2,none⟩=some (.bool true):=by rw [q 2 (by decide),HV.out,←Y.out];rfl
 have t:(fB c g n s l).bad=false:=HB.out;rw [t] at a0;have i:=Lib.hid K;clear K q D;have h0:(bs ([]:List UInt8)).size=0:=rfl;have b0:(bs ([]:List UInt8)).toList.isEmpty=true:=by rw [ByteArray.toList_eq,aQ];rfl
 have hr:r=true∨(r=false∧y=true)∨(r=false∧y=false∧O=true)∨(r=false∧y=false∧O=false∧W=true)∨(r=false∧y=false∧O=false∧W=false):=by cases r <;> cases y <;> cases O <;> cases W <;> simp
 rcases hr with rfl | ⟨rfl,rfl⟩ | ⟨rfl,rfl,rfl⟩ | ⟨rfl,rfl,rfl,rfl⟩ | ⟨rfl,rfl,rfl,rfl⟩
 ·skip
  go_wp2_with fail
  refine (z.out _).mono ?_;rintro e a ⟨rfl,rfl⟩;go_wp2_with fail
  refine (A.out _).mono ?_;rintro e a ⟨rfl,rfl⟩;go_wp2_with fail
  refine (B.out _).mono ?_;rintro e a ⟨rfl,rfl⟩;go_wp2_with fail
  refine (C.out _).mono ?_;rintro e a ⟨rfl,rfl⟩;go_wp2_with fail
  refine bodyPost_end (results_none rfl _ _ _) rfl ?_;obtain ⟨d,o⟩:=i.out.at_.putB false;have d:=d.same (show _=fB c g n s l by rw [←t]);exact ⟨rfl,cY.called i.out.ho i.out.hc (cY.turned o (fun k e=> .inl e) (cY.refl d))⟩
 ·skip
  go_wp2_with fail
  refine (z.out _).mono ?_;rintro e a ⟨rfl,rfl⟩;go_wp2_with fail
  refine (A.out _).mono ?_;rintro e a ⟨rfl,rfl⟩;go_wp2_with fail
  refine (B.out _).mono ?_;rintro e a ⟨rfl,rfl⟩;go_wp2_with fail
  refine (C.out _).mono ?_;rintro e a ⟨rfl,rfl⟩;go_wp2_with fail
  refine (P.out _).mono ?_;rintro e a ⟨rfl,rfl⟩;go_wp2_with fail
  refine bodyPost_end (results_none rfl _ _ _) rfl ?_;obtain ⟨d,o⟩:=i.out.at_.putB false;have d:=d.same (show _=fB c g n s l by rw [←t]);exact ⟨rfl,cY.called i.out.ho i.out.hc (cY.turned o (fun k e=> .inl e) (cY.refl d))⟩
 ·skip
  go_wp2_with fail
  refine (z.out _).mono ?_;rintro e a ⟨rfl,rfl⟩;go_wp2_with fail
  refine (A.out _).mono ?_;rintro e a ⟨rfl,rfl⟩;go_wp2_with fail
  refine (B.out _).mono ?_;rintro e a ⟨rfl,rfl⟩;go_wp2_with fail
  refine (C.out _).mono ?_;rintro e a ⟨rfl,rfl⟩;go_wp2_with fail
  refine (P.out _).mono ?_;rintro e a ⟨rfl,rfl⟩;go_wp2_with fail
  refine (X.out _).mono ?_;rintro e a ⟨rfl,rfl⟩;go_wp2_with fail
  refine bodyPost_end (results_none rfl _ _ _) rfl ?_;obtain ⟨d,o⟩:=i.out.at_.putB false;have d:=d.same (show _=fB c g n s l by rw [←t]);exact ⟨rfl,cY.called i.out.ho i.out.hc (cY.turned o (fun k e=> .inl e) (cY.refl d))⟩
 ·skip
  go_wp2_with fail
  refine (z.out _).mono ?_;rintro e a ⟨rfl,rfl⟩;go_wp2_with fail
  refine (A.out _).mono ?_;rintro e a ⟨rfl,rfl⟩;go_wp2_with fail
  refine (B.out _).mono ?_;rintro e a ⟨rfl,rfl⟩;go_wp2_with fail
  refine (C.out _).mono ?_;rintro e a ⟨rfl,rfl⟩;go_wp2_with fail
  refine (P.out _).mono ?_;rintro e a ⟨rfl,rfl⟩;go_wp2_with fail
  refine (X.out _).mono ?_;rintro e a ⟨rfl,rfl⟩;go_wp2_with fail
  refine (A7.out _).mono ?_;rintro e a ⟨rfl,rfl⟩;go_wp2_with fail
  refine bodyPost_end (results_none rfl _ _ _) rfl ?_;obtain ⟨d,o⟩:=i.out.at_.putB false;have d:=d.same (show _=fB c g n s l by rw [←t]);exact ⟨rfl,cY.called i.out.ho i.out.hc (cY.turned o (fun k e=> .inl e) (cY.refl d))⟩
 ·skip
  go_wp2_with fail
  refine (z.out _).mono ?_;rintro e a ⟨rfl,rfl⟩;go_wp2_with fail
  refine (A.out _).mono ?_;rintro e a ⟨rfl,rfl⟩;go_wp2_with fail
  refine (B.out _).mono ?_;rintro e a ⟨rfl,rfl⟩;go_wp2_with fail
  refine (C.out _).mono ?_;rintro e a ⟨rfl,rfl⟩;go_wp2_with fail
  refine (P.out _).mono ?_;rintro e a ⟨rfl,rfl⟩;go_wp2_with fail
  refine (X.out _).mono ?_;rintro e a ⟨rfl,rfl⟩;go_wp2_with fail
  refine (A7.out _).mono ?_;rintro e a ⟨rfl,rfl⟩;go_wp2_with fail
  refine bodyPost_end (results_none rfl _ _ _) rfl ?_;obtain ⟨d,o⟩:=i.out.at_.putB false;have d:=d.same (show _=fB c g n s l by rw [←t]);exact ⟨rfl,cY.called i.out.ho i.out.hc (cY.turned o (fun k e=> .inl e) (cY.refl d))⟩
end
end Go.Proofs.YtofpegbpgkkgkaaGreatDoor
