import Derived.Test.YtofpegbpgkkgkaaGreatDoorS14
import Derived.Test.YtofpegbpgkkgkaaGreatDoorS18
namespace Go.Proofs.YtofpegbpgkkgkaaGreatDoor
set_option maxHeartbeats 8000000
set_option maxRecDepth 1000000
open Go.RowKit
theorem wK:(Tryz.prog.info? 201).map (fun i=>(i.zero,i.size,i.bytes))=some (some (.agg #[.int .i64 0,.bool false]),2,16):=by kernel_rfl
theorem xk (l j i B:Nat) (b a:List UInt8) (q:Value) (L:List (Nat×List UInt8)) (w:World) (v:w.ownsRow B 162 2 q L.length (aR L)) (V:L.length≤1000):
  Calls Tryz.prog 48 #[.pointer (some ⟨l,0,none⟩),.pointer (some ⟨j,0,none⟩),.agg #[.int .i64 ((i:Int)+1),.string (bs b),q,.string (bs a)]] w fun e G=>∃x D,e= .returned (.pointer (some ⟨x,0,none⟩))∧bR G x D l j q q (.slice none 0 0) b a L.length false ⟨i,0,L,[],[]⟩∧w.heap.size≤x∧w.heap.size≤D∧Below w.heap.size w G:=by
 obtain ⟨d,f,M⟩:=aE (aF v);have A:=Lib.hid v;subst M;obtain ⟨c,g⟩:∃c:World,w.alloc (.cells #[.int .i64 ((i:Int)+1),.string (bs b),.slice d L.length f,.string (bs a)] 104)=c:=⟨_,rfl⟩;have r:Below w.heap.size w c:=by rw [←g];exact (Below.refl _ _).alloc (Nat.le_refl _) _
 have o:c.drew.heap[w.heap.size]? =some (.cells #[.int .i64 ((i:Int)+1),.string (bs b),.slice d L.length f,.string (bs a)] 104 (0,0)):=by rw [←g];exact heap_alloc_new w _
 have S:c.heap.size=w.heap.size+1:=by rw [←g];simp
 have O:c.drew.cell? ⟨w.heap.size,0,none⟩=some (.int .i64 ((i:Int)+1)):=by rw [Lib.cell_of_heap o];rfl
 have P:c.drew.cell? ⟨w.heap.size,1,none⟩=some (.string (bs b)):=by rw [Lib.cell_of_heap o];rfl
 have Q:c.drew.cell? ⟨w.heap.size,2,none⟩=some (.slice d L.length f):=by rw [Lib.cell_of_heap o];rfl
 have R:c.drew.cell? ⟨w.heap.size,3,none⟩=some (.string (bs a)):=by rw [Lib.cell_of_heap o];rfl
 have Y:c.cell? ⟨w.heap.size,0,none⟩=some (.int .i64 ((i:Int)+1)):=O;have Z:c.cell? ⟨w.heap.size,1,none⟩=some (.string (bs b)):=P;have n2:c.cell? ⟨w.heap.size,2,none⟩=some (.slice d L.length f):=Q;have n3:c.cell? ⟨w.heap.size,3,none⟩=some (.string (bs a)):=R;obtain ⟨X,u,E,F,p⟩:=info_parts wK;have N:∀W:World,(Instr.makeChan 151 (.int .i64 (L.length:Int))).run Tryz.prog W= .ok (.chan (some W.heap.size)) (W.alloc (.chan L.length #[] false 0 0 false)):=fun W=>Conc.run_makeChan (n:=L.length) Tryz.underlying151 u .i64 (by omega) (by rw [p];omega);have t:=Lib.hid g;have J:=Lib.hid r
 have z:Hid (bR ((c.alloc (.chan L.length #[] false 0 0 false)).alloc (.cells (fo l j (w.heap.size+1) (.slice d L.length f) (.slice d L.length f) (.slice none 0 0) b a false ⟨i,0,L,[],[]⟩) 153)).drew (w.heap.size+1+1) (w.heap.size+1) l j (.slice d L.length f) (.slice d L.length f) (.slice none 0 0) b a L.length false ⟨i,0,L,[],[]⟩∧Below w.heap.size w ((c.alloc (.chan L.length #[] false 0 0 false)).alloc (.cells (fo l j (w.heap.size+1) (.slice d L.length f) (.slice d L.length f) (.slice none 0 0) b a false ⟨i,0,L,[],[]⟩) 153)).drew):=Lib.hid (by
  have H:(c.alloc (.chan L.length #[] false 0 0 false)).heap.size=w.heap.size+1+1:=by simp;omega
  obtain ⟨h,m⟩:∃h:World,c.alloc (.chan L.length #[] false 0 0 false)=h:=⟨_,rfl⟩;have I:Below c.heap.size c h:=by rw [←m];exact (Below.refl _ _).alloc (Nat.le_refl _) _
  have K:h.heap[w.heap.size+1]? =some (.chan L.length #[] false 0 0 false):=by rw [←m,←S];exact heap_alloc_new c _
  rw [m] at H ⊢;have y:=(Below.refl h.heap.size h).alloc (Nat.le_refl _) (.cells (fo l j (w.heap.size+1) (.slice d L.length f) (.slice d L.length f) (.slice none 0 0) b a false ⟨i,0,L,[],[]⟩) 153);have s:Below w.heap.size w (h.alloc (.cells (fo l j (w.heap.size+1) (.slice d L.length f) (.slice d L.length f) (.slice none 0 0) b a false ⟨i,0,L,[],[]⟩) 153)).drew:=((r.trans (I.mono (by omega))).trans (y.mono (by omega))).drew;have C:=heap_alloc_new h (.cells (fo l j (w.heap.size+1) (.slice d L.length f) (.slice d L.length f) (.slice none 0 0) b a false ⟨i,0,L,[],[]⟩) 153);rw [H] at C;refine ⟨⟨C,⟨0,0,ae y K⟩,(aF A.out).below s,World.ownsRow_nil _ _ _ _,fun k e=>e,(fun k e=>by cases e),fun k e=>?_⟩,s⟩;have T:=(A.out.lt k e).2;have U:=s.size
  exact ⟨by omega,by omega,by omega⟩)
 clear o r g v;go_enter Tryz.func48,Tryz.ntmps48;go_wp2_with fail
 rw [t.out];go_region_law (fail)
 all_goals
  go_wp2_with fail
  go_ret;exact ⟨w.heap.size+1+1,w.heap.size+1,rfl,z.out.1,by omega,by omega,z.out.2⟩
open Go.ChangeMaps (setBlock)
def Gi (S:aa) (D:Nat→Int×Int) (w:World) (e:Ending) (w':World):Prop:=
 Below w.heap.size w w'∧((∃i∈S.live,(D i).1≤S.time∧∃a c,e= .returned (.tuple #[.agg #[.int .i64 ((i:Int)+1),.string (bs (S.mailOf i).frm),.slice a (S.stayOf i).length c,.string (bs (S.mailOf i).body)],.bool true])∧w'.ownsRow w.heap.size 162 2 (.slice a (S.stayOf i).length c) (S.stayOf i).length (aR (S.stayOf i)))∨
  ((∀i∈S.live,S.time < (D i).1)∧e= .returned (.tuple #[.agg #[.int .i64 0,.string ⟨#[]⟩,.slice none 0 0,.string ⟨#[]⟩],.bool false])))
theorem Ep {w W:World} {a b c d:Value} {sb:Nat} (h:W.heap[sb]? =some (.cells #[.int .i64 0,.string ⟨#[]⟩,.slice none 0 0,.string ⟨#[]⟩] 104 (0,0))) (f:Below w.heap.size w W) (g:w.heap.size≤sb):
  ((((W.setCell ⟨sb,0,none⟩ a).setCell ⟨sb,1,none⟩ b).setCell ⟨sb,2,none⟩ c).setCell ⟨sb,3,none⟩ d).heap[sb]? =some (.cells #[a,b,c,d] 104 (0,0))∧Below w.heap.size w ((((W.setCell ⟨sb,0,none⟩ a).setCell ⟨sb,1,none⟩ b).setCell ⟨sb,2,none⟩ c).setCell ⟨sb,3,none⟩ d)∧aL sb W ((((W.setCell ⟨sb,0,none⟩ a).setCell ⟨sb,1,none⟩ b).setCell ⟨sb,2,none⟩ c).setCell ⟨sb,3,none⟩ d):=by
 have e:aL sb W ((((W.setCell ⟨sb,0,none⟩ a).setCell ⟨sb,1,none⟩ b).setCell ⟨sb,2,none⟩ c).setCell ⟨sb,3,none⟩ d):=((((aL.refl _ _).setCell _).setCell _).setCell _).setCell _;exact ⟨heap_setCell_same _ _ 3 _ _ _ (heap_setCell_same _ _ 2 _ _ _ (heap_setCell_same _ _ 1 _ _ _ (heap_setCell_same _ _ 0 _ _ _ h))),f.trans (e.below g),e⟩
theorem Bb (Y pb o:Nat) (q:Nat→Nat) (vr:Value) (S:aa) (D:Nat→Int×Int) (w:World) (h:bh Y w pb o q vr S) (hd:jk w q S.live D) (e2:S.Ok) (hn:S.items.length≤1048576):
  Calls Tryz.prog 47 #[.pointer (some ⟨pb,0,none⟩)] w (Gi S D w):=by
 have h5:=uG S;obtain ⟨H,F⟩:∃H:World,w.alloc (.cells #[.int .i64 0,.string ⟨#[]⟩,.slice none 0 0,.string ⟨#[]⟩] 104)=H:=⟨_,rfl⟩;have Ba:Below w.heap.size w H:=by rw [←F];exact (Below.refl _ _).alloc (Nat.le_refl _) _
 have za:H.heap.size=w.heap.size+1:=by rw [←F];simp
 have ha:=h.keep Ba;have e4:=run_range_map (P:=Tryz.prog) H 115 3 122 o (cO q S.live) S.items.length Tryz.underlying115 ha.map;have c3:H.cell? ⟨pb,3,none⟩=some (.map (some o)):=by rw [Lib.cell_of_heap ha.bag];rfl
 have D0:D5 w (H.alloc (.mapIter (some o) S.items.length #[] S.items.length)) o q S D #[] (.slice none 0 0) []:=by
  have hb:Below H.heap.size H (H.alloc (.mapIter (some o) S.items.length #[] S.items.length)):=(Below.refl _ _).alloc (Nat.le_refl _) _;refine ⟨Ba.trans (hb.mono (by omega)),by simp;omega,ae hb (by rw [←F];exact heap_alloc_new w _),?_,World.ownsRow_nil _ _ _ _,(fun k e=>by cases e),(fun i m=>by cases m),(fun i _ hs=>by simp at hs),?_⟩
  ·rw [←za];exact heap_alloc_new H _
  ·have:(Go.leftOf (cO q S.live) #[]).size≤(cO q S.live).size:=Array.size_filter_le;have e:(cO q S.live).size=S.live.length:=by simp [cO]
   simp only [List.length_nil];omega
 have a6:=Lib.hid D0;have g0:=Lib.hid F;have HH:=Lib.hid h;have f1:=Lib.hid hd;have f5:=Lib.hid e2;rw [←F] at e4 c3;clear h D0 ha hd e2 Ba F;go_enter Tryz.func47,Tryz.ntmps47;go_wp2_with fail
 rw [g0.out];obtain ⟨W0,d6⟩:∃W0:World,H.alloc (.mapIter (some o) S.items.length #[] S.items.length)=W0:=⟨_,rfl⟩;rw [d6] at a6 ⊢;clear d6 e4 c3;go_loopw [4,5,6] (fun v _ _ w'=>∃(f:Array Nat) (L:List Nat),Hid (D5 w w' o q S D f v L)) (fun _ _ _ w'=>(Go.leftOf (cO q S.live) (w'.iterSeen (w.heap.size+1))).size)
 case atStart=>exact ⟨#[],[],a6⟩
 case round=>
  clear a6;obtain ⟨f,L,l⟩:=hrel;obtain ⟨av,cv,ev⟩:=aE (aF l.out.row);subst ev;have Hr:=HH.out.keep l.out.below
  have h2:=run_next_at (P:=Tryz.prog) wr 0 (w.heap.size+1) o S.items.length S.items.length f (cO q S.live) S.items.length l.out.it Hr.map (fun x hx=>by
   rw [cT] at hx;obtain ⟨i,m,rfl⟩:=List.mem_map.1 hx
   exact bq m) (Nat.le_refl _)
  rcases h2 with ⟨h0,N⟩ | ⟨e,he,w1,G,N⟩
  ·have s:∀i∈S.live,f.contains i=true:=fun i m=>by
    cases hs:f.contains i with
    | true=>rfl
    | false=>
     have hm:nM q i∈(Go.leftOf (cO q S.live) f).toList:=by
      unfold Go.leftOf;rw [Array.toList_filter,List.mem_filter,cT];refine ⟨List.mem_map.2 ⟨i,m,rfl⟩,?_⟩;show (!f.contains i)=true;rw [hs];rfl
     have e0:(Go.leftOf (cO q S.live) f).toList=[]:=List.eq_nil_of_length_eq_zero (by rw [Array.length_toList];exact h0);rw [e0] at hm
     cases hm
   have m0:∀W:World,Below wr.heap.size wr W→W.heap[w.heap.size]? =some (.cells #[.int .i64 0,.string ⟨#[]⟩,.slice none 0 0,.string ⟨#[]⟩] 104 (0,0)):=fun W hb=>ae hb l.out.out;have HM:=Lib.hid m0
   by_cases hL:L=[]
   ·have g5:L.length=0:=by rw [hL];rfl
    have Q:=m0 wr (Below.refl _ _);have a0:wr.cell? ⟨w.heap.size,0,none⟩=some (.int .i64 0):=by rw [Lib.cell_of_heap Q];rfl
    have a1:wr.cell? ⟨w.heap.size,1,none⟩=some (.string ⟨#[]⟩):=by rw [Lib.cell_of_heap Q];rfl
    have a2:wr.cell? ⟨w.heap.size,2,none⟩=some (.slice none 0 0):=by rw [Lib.cell_of_heap Q];rfl
    have a3:wr.cell? ⟨w.heap.size,3,none⟩=some (.string ⟨#[]⟩):=by rw [Lib.cell_of_heap Q];rfl
    have b0:=Lib.frozen_of_heap Q 0;have b1:=Lib.frozen_of_heap Q 1;have b2:=Lib.frozen_of_heap Q 2;have b3:=Lib.frozen_of_heap Q 3
    have B:Hid (∀i∈S.live,S.time < (D i).1):=Lib.hid (fun i m=>by
     by_cases U:(D i).1≤S.time
     ·have:=l.out.all i m (s i m) U;rw [hL] at this;cases this
     ·omega)
    have HE:=Lib.hid (Ep (w:=w) (a:= .int .i64 0) (b:= .string ⟨#[]⟩) (c:= .slice none 0 0) (d:= .string ⟨#[]⟩) Q l.out.below (Nat.le_refl _));rw [g5];clear m0 Q Hr s h0;go_wp2_with fail
    obtain ⟨z,h3⟩:∃z:World,((((wr.setCell ⟨w.heap.size,0,none⟩ (.int .i64 0)).setCell ⟨w.heap.size,1,none⟩ (.string ⟨#[]⟩)).setCell ⟨w.heap.size,2,none⟩ (.slice none 0 0)).setCell ⟨w.heap.size,3,none⟩ (.string ⟨#[]⟩))=z:=⟨_,rfl⟩;rw [h3] at HE ⊢;obtain ⟨X9,B9,_⟩:=HE.out;have c0:z.cell? ⟨w.heap.size,0,none⟩=some (.int .i64 0):=by rw [Lib.cell_of_heap X9];rfl
    have c1:z.cell? ⟨w.heap.size,1,none⟩=some (.string ⟨#[]⟩):=by rw [Lib.cell_of_heap X9];rfl
    have c2:z.cell? ⟨w.heap.size,2,none⟩=some (.slice none 0 0):=by rw [Lib.cell_of_heap X9];rfl
    have c3:z.cell? ⟨w.heap.size,3,none⟩=some (.string ⟨#[]⟩):=by rw [Lib.cell_of_heap X9];rfl
    refine bodyPost_ret (v:= .tuple #[.agg #[.int .i64 0,.string ⟨#[]⟩,.slice none 0 0,.string ⟨#[]⟩],.bool false]) (by simp [results,Tryz.results47,go_sem,c0,c1,c2,c3]) rfl ?_;exact ⟨B9,.inr ⟨B.out,rfl⟩⟩
   ·have g6:1≤L.length:=List.length_pos_iff.2 hL;have g7:L.length≤1048576:=by have:=l.out.cnt;omega
    have c7:=Lib.hid (Bi Y pb o q vr (.slice av L.length cv) S L wr Hr hn (fun i m=>(l.out.mem i m).1) g6 g7 (aF l.out.row));have h9:((L.length:Int) == 0)=false:=by rw [beq_eq_false_iff_ne];omega
    have b7:=Lib.hid l.out.below;have c6:=Lib.hid l.out.mem;clear m0 Hr s h0 l;go_wp2_with fail
    refine c7.out.mono ?_;rintro e y ⟨i,g9,rfl,b4⟩;obtain ⟨m,g8⟩:=c6.out i g9;have V:Below w.heap.size w y:=b7.out.trans (b4.mono b7.out.size);have X:=HH.out.keep V;have h8:y.cell? ⟨pb,3,none⟩=some (.map (some o)):=by rw [Lib.cell_of_heap X.bag];rfl
    have i0:(Instr.lookup 115 (.map (some o)) (.int .i64 ((i:Int)+1)) false).run Tryz.prog y= .ok (.pointer (some ⟨q i,0,none⟩)) y:=
     ig (t:=115) (e:=122) fU Tryz.underlying115 X.map (fun j hj=>by have:=bq hj;omega) i (by have:=bq m;omega) m false
    obtain ⟨_,vi,xi,bi,ri⟩:=X.mail i m;have i2:=dk f5.out i;obtain ⟨ai,ci,ei⟩:=aE (aF ri);subst ei;have b8:=Lib.hid (Cs (S.stayOf i) _ y.drew (aF ri) (by omega));have p1:y.drew.cell? ⟨q i,1,none⟩=some (.string (bs (S.mailOf i).frm)):=by show y.cell? _=_;rw [Lib.cell_of_heap bi];rfl
    have p2:y.drew.cell? ⟨q i,2,none⟩=some (.slice ai (S.stayOf i).length ci):=by show y.cell? _=_;rw [Lib.cell_of_heap bi];rfl
    have p3:y.drew.cell? ⟨q i,3,none⟩=some (.string (bs (S.mailOf i).body)):=by show y.cell? _=_;rw [Lib.cell_of_heap bi];rfl
    have h6:=Lib.hid bi;have e9:=Lib.hid V;have J:w.heap.size≤y.heap.size:=V.size;have g4:=Lib.hid (HM.out y b4);clear V X bi ri b4 c7;obtain ⟨fr,d3⟩:∃fr,(S.mailOf i).frm=fr:=⟨_,rfl⟩;obtain ⟨bo,d2⟩:∃bo,(S.mailOf i).body=bo:=⟨_,rfl⟩;obtain ⟨ln,a8⟩:∃ln,(S.stayOf i).length=ln:=⟨_,rfl⟩;rw [d3] at p1;rw [d2] at p3;rw [a8] at p2 b8;go_wp2_with fail
    go_region_law (first
     | (go_simp;go_at_call 82;refine b8.out.mono ?_;rintro e z ⟨a9,c9,rfl,e1,K⟩;have k1:z.cell? ⟨q i,1,none⟩=some (.string (bs fr)):=(K.cell (aC p1)).trans p1;have k3:z.cell? ⟨q i,3,none⟩=some (.string (bs bo)):=(K.cell (aC p3)).trans p3;have R:=ae K g4.out;have a0:z.cell? ⟨w.heap.size,0,none⟩=some (.int .i64 0):=(by rw [Lib.cell_of_heap R];rfl);have a1:z.cell? ⟨w.heap.size,1,none⟩=some (.string ⟨#[]⟩):=(by rw [Lib.cell_of_heap R];rfl);have a2:z.cell? ⟨w.heap.size,2,none⟩=some (.slice none 0 0):=(by rw [Lib.cell_of_heap R];rfl);have a3:z.cell? ⟨w.heap.size,3,none⟩=some (.string ⟨#[]⟩):=(by rw [Lib.cell_of_heap R];rfl);have b0:=Lib.frozen_of_heap R 0;have b1:=Lib.frozen_of_heap R 1;have b2:=Lib.frozen_of_heap R 2;have b3:=Lib.frozen_of_heap R 3;have f4:=Lib.hid e1;have d0:=Lib.hid R;have f0:Hid (Below w.heap.size w z):=Lib.hid ((e9.out.trans ((Below.refl y.heap.size y).drew.mono J)).trans (K.mono J));clear e1 K R;dsimp only))
    all_goals
     obtain ⟨u,O⟩:∃u:World,((((z.setCell ⟨w.heap.size,0,none⟩ (.int .i64 ((i:Int)+1))).setCell ⟨w.heap.size,1,none⟩ (.string (bs fr))).setCell ⟨w.heap.size,2,none⟩ (.slice a9 ln c9)).setCell ⟨w.heap.size,3,none⟩ (.string (bs bo)))=u:=⟨_,rfl⟩;rw [O];obtain ⟨E,a5,a7⟩:=Ep (w:=w) (a:= .int .i64 ((i:Int)+1)) (b:= .string (bs fr)) (c:= .slice a9 ln c9) (d:= .string (bs bo)) d0.out f0.out (Nat.le_refl _);rw [O] at E a5 a7;have c0:u.cell? ⟨w.heap.size,0,none⟩=some (.int .i64 ((i:Int)+1)):=by rw [Lib.cell_of_heap E];rfl
     have c1:u.cell? ⟨w.heap.size,1,none⟩=some (.string (bs fr)):=by rw [Lib.cell_of_heap E];rfl
     have c2:u.cell? ⟨w.heap.size,2,none⟩=some (.slice a9 ln c9):=by rw [Lib.cell_of_heap E];rfl
     have c3:u.cell? ⟨w.heap.size,3,none⟩=some (.string (bs bo)):=by rw [Lib.cell_of_heap E];rfl
     have c8:Hid (u.ownsRow w.heap.size 162 2 (.slice a9 ln c9) ln (aR (S.stayOf i))):=Lib.hid ((aA f4.out fun g d1 e _=>aP a7 e fun e'=>by rw [e',d0.out] at e;simp at e).mono J);have b6:=Lib.hid a5;clear O E a5 a7 a0 a1 a2 a3 b0 b1 b2 b3 k1 k3 p1 p2 p3;go_wp2_with fail
     refine bodyPost_ret (v:= .tuple #[.agg #[.int .i64 ((i:Int)+1),.string (bs fr),.slice a9 ln c9,.string (bs bo)],.bool true]) (by simp [results,Tryz.results47,go_sem,c0,c1,c2,c3]) rfl ?_;refine ⟨b6.out,.inl ⟨i,m,g8,a9,c9,?_,?_⟩⟩
     ·rw [d3,d2,a8]
     ·rw [a8];exact c8.out
  ·obtain ⟨i,m,rfl⟩:=xQ he;have M:=Lib.hid (nT he);have h4:=l.out.big;have T:w1.heap=wr.heap:=by rcases G with e | e <;> rw [e];rfl
   have B1:Below w.heap.size w w1:=by rcases G with e | e <;> rw [e];exact l.out.below;exact l.out.below.drew
   obtain ⟨p,r⟩:∃p:World,setBlock w1 (w.heap.size+1) (.mapIter (some o) S.items.length (f.push (nM q i).born) S.items.length)=p:=⟨_,rfl⟩;have S1:aL (w.heap.size+1) w1 p:=by rw [←r];exact ke _ _ _
   have V:Below w.heap.size w p:=B1.trans (S1.below (by omega));have I2:p.heap[w.heap.size+1]? =some (.mapIter (some o) S.items.length (f.push (nM q i).born) S.items.length):=by rw [←r];exact s9 (by rw [T];omega) _
   have X:=HH.out.keep V;rw [r] at N;have d8:=run_entry_at (P:=Tryz.prog) p (w.heap.size+1) o S.items.length f (cO q S.live) S.items.length (nM q i) I2 X.map (by rw [cT];exact List.mem_map.2 ⟨i,m,rfl⟩) (tR (gJ S));have c1:p.cell? ⟨pb,1,none⟩=some (.int .i64 S.time):=by rw [Lib.cell_of_heap X.bag];rfl
   obtain ⟨C,hC,d4,_⟩:=f1.out i m;have c4:p.cell? ⟨q i,4,none⟩=some (.int .i64 (D i).1):=by rw [Lib.cell_of_heap (ae V hC),d4]
   have a4:(nM q i).val= .pointer (some ⟨q i,0,none⟩):=rfl;have Z:(nM q i).key= .int .i64 ((i:Int)+1):=rfl;have b5:(nM q i).born=i:=rfl;rw [a4,Z] at N d8;have f2:=Lib.hid he;have f8:=Lib.hid G;have f9:=Lib.hid r;have f7:=Lib.hid S1;obtain ⟨ii,d9,e5,e6,e7⟩:=info_parts qP;have i1:L.length≤1048576:=by have:=l.out.cnt;omega
   have A:Hid ((D i).1≤S.time→∀n,∃g cp W3,(Builtin.append_ #[28,28] 28 #[.slice av L.length cv,.slice (some ⟨p.heap.size,0,none⟩) 1 1]).run Tryz.prog ((p.drewN n).alloc (.cells #[.int .i64 ((i:Int)+1)] 3))= .ok (.slice (some ⟨g,0,none⟩) (L.length+1) cp) W3∧D5 w W3 o q S D (f.push i) (.slice (some ⟨g,0,none⟩) (L.length+1) cp) (L++[i])):=Lib.hid (fun d7 n=>by
    have r1:w1.ownsRow 0 3 1 (.slice av L.length cv) L.length ((iK L).map fun (i:Int)=> .int .i64 i):=aA l.out.row fun g d1 e _=>by rw [T];exact e
    have r2:(p.drewN n).ownsRow 0 3 1 (.slice av L.length cv) L.length ((iK L).map fun (i:Int)=> .int .i64 i):=aA r1 fun g d1 e _=>aP S1 e fun e'=>by
     have:=l.out.it;rw [←T,←e',e] at this;simp at this
    obtain ⟨g,cp,W3,k1,k2,k3,k4⟩:=pv (P:=Tryz.prog) Tryz.underlying28 d9 e5 e6 e7 rfl (p.drewN n) ((p.drewN n).alloc (.cells #[.int .i64 ((i:Int)+1)] 3)) (.slice av L.length cv) (.int .i64 ((i:Int)+1)) L.length _ r2 rfl ((Below.refl _ _).alloc (Nat.le_refl _) _) (heap_alloc_new _ _) (by unfold maxLen;omega) (by omega);refine ⟨g,cp,W3,k1,l.out.plus (v':= .slice (some ⟨g,0,none⟩) (L.length+1) cp) m he d7 G (ke _ _ _) (W':=p.drewN n) (by rw [←r];exact bA _ _ _) k3 k2 (fun g' e=>?_)⟩;have e:g=g':=by simpa [Value.ownBlock] using e
    rw [←e];exact k4)
   have B:Hid (¬(D i).1≤S.time→∀n,D5 w (p.drewN n) o q S D (f.push i) (.slice av L.length cv) L):=Lib.hid (fun h1 n=>by
    have l1:D5 w w1 o q S D f (.slice av L.length cv) L:=by
     rcases G with e | e <;> rw [e]
     ·exact l.out
     ·exact l.out.keep ((Below.refl _ _).drew)
    have l2:=l1.step he h1;rw [show setBlock w1 (w.heap.size+1) (.mapIter (some o) S.items.length (f.push i) S.items.length)=p from r] at l2
    exact l2.keep (bA _ _ _))
   obtain ⟨d,ed⟩:∃d,(D i).1=d:=⟨_,rfl⟩;have h7:=Lib.hid ed;rw [ed] at c4;rw [ed] at A B;have c5:=Lib.hid l.out.it;clear a4 Z r S1 B1 V I2 X hC d4 G he T ed Hr l d9 e5 e6 e7 f2 f8 f9 f7 b5
   by_cases U:d≤(S.time:Int)
   ·have e8:=Lib.hid (A.out U);clear A B;go_wp2_with fail
    go_quiet (fail)
    obtain ⟨g,cp,W3,e3,d5⟩:=e8.out nq;have f6:=Lib.hid e3;have I:=Lib.hid d5;clear e3 d5
    go_wp2_with (first
     | (at_builtin;refine bB rfl _ _ 28 rfl _ _ (.slice (some ⟨g,0,none⟩) (L.length+1) cp) W3 rfl rfl f6.out ?_)
     | fail)
    exact ⟨⟨_,_,I⟩,by rw [ja I.out.it,ja c5.out];exact M.out⟩
   ·have f3:=Lib.hid (B.out U);clear A B;go_wp2_with fail
    go_quiet (fail)
    have I:=Lib.hid (f3.out nq);go_wp2_with fail
    exact ⟨⟨_,_,I⟩,by rw [ja I.out.it,ja c5.out];exact M.out⟩
theorem uZ {S:aa} (o:S.Ok) {m:aX} (p:m∈gA S.items):∃i,i < S.items.length∧m.id=i+1∧m.frm=(S.mailOf i).frm∧m.body=(S.mailOf i).body∧(∀t∈m.tos,t∈(S.mailOf i).tos)∧1≤m.tos.length∧m.tos.length≤(S.mailOf i).tos.length∧dQ m:=by
 unfold gA at p;obtain ⟨p,n⟩:=List.mem_filter.1 p;obtain ⟨x,v,rfl⟩:=List.mem_map.1 p;obtain ⟨i,k,rfl⟩:=List.getElem_of_mem v;obtain ⟨w,y,z,u⟩:=o.sz _ (List.getElem_mem k)
 have g:∀t∈(S.items[i].now).tos,t∈S.items[i].m.tos:=fun t s=>by
  obtain ⟨j,l,rfl⟩:=List.mem_map.1 (show t∈(iW S.items[i].out S.items[i].out.length).map _ from s);have l:=((lW _ _).1 l).1;rw [u] at l;rw [List.getD_eq_getElem?_getD,List.getElem?_eq_getElem l];exact List.getElem_mem l
 have q:(S.items[i].now).tos.length≤S.items[i].m.tos.length:=by
  show ((iW S.items[i].out S.items[i].out.length).map _).length≤_;rw [List.length_map,←u];exact uF _ _
 refine ⟨i,k,o.id i k,by rw [cd k];rfl,by rw [cd k];rfl,by rw [cd k];exact g,?_,by rw [cd k];exact q,?_⟩
 ·cases h:(S.items[i].now).tos with
  | nil=>rw [h] at n;cases n
  | cons t r=>simp
 ·obtain ⟨a,b,c,d,e,f⟩:=w;exact ⟨a,b,c,by omega,fun t s=>e t (g t s),f⟩
end Go.Proofs.YtofpegbpgkkgkaaGreatDoor
