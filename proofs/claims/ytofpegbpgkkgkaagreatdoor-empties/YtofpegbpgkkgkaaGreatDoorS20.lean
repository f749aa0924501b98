import Derived.Test.YtofpegbpgkkgkaaGreatDoorS18
import Derived.Test.YtofpegbpgkkgkaaGreatDoorS17
import Derived.Test.YtofpegbpgkkgkaaGreatDoorS15
namespace Go.Proofs.YtofpegbpgkkgkaaGreatDoor
set_option maxHeartbeats 8000000
set_option maxRecDepth 1000000
open Go.RowKit
def kA:List (List UInt8):=[[72,69,76,79,32,120],
 [69,72,76,79,32,121,46,122],
 [65,85,84,72,32,80,76,65,73,78,32,65,72,85,65,100,119,61,61],
 [65,85,84,72,32,80,76,65,73,78,32,100,81,66,49,65,72,99,61],
 [65,85,84,72,32,80,76,65,73,78,32,65,72,85,65,101,65,61,61],
 [65,85,84,72,32,80,76,65,73,78,32,65,72,89,65,98,71,57,117,90,121,66,51,98,51,74,107],
 [65,85,84,72,32,80,76,65,73,78,32,100,103,66,49,65,72,99,61],
 [78,79,79,80],
 [82,83,69,84],
 [81,85,73,84],
 [87,72,65,84],
 [72,69,76,79],
 [77,65,73,76,32,70,82,79,77,58,60,97,64,98,62,32,83,73,90,69,61,50,48,48,48],
 [77,65,73,76,32,70,82,79,77,58,60,62],
 [109,97,105,108,32,102,114,111,109,58,60,109,101,64,72,69,82,69,46,111,114,103,62],
 [77,65,73,76,32,70,82,79,77,58,60,120,64,99,46,100,62,32,83,73,90,69,61,53],
 [82,67,80,84,32,84,79,58,60,106,64,97,46,111,114,103,62],
 [82,67,80,84,32,84,79,58,60,107,64,65,46,79,82,71,62],
 [82,67,80,84,32,84,79,58,60,108,64,98,46,110,101,116,62],
 [82,67,80,84,32,84,79,58,60,109,64,99,46,111,114,103,62],
 [82,67,80,84,32,84,79,58,60,110,64,100,46,111,114,103,62],
 [114,99,112,116,32,116,111,58,60,106,64,65,46,111,114,103,62],
 [68,65,84,65],
 [68,65,84,65],
 [104,101,108,108,111],
 [46,46,116,119,111,32,100,111,116,115],
 [],
 [46],
 [46],
 [97,32,108,105,110,101,32,111,102,32,97,32,98,111,100,121,32,116,104,97,116,32,105,115,32,108,111,110,103,101,114,32,116,104,97,110,32,109,111,115,116],
 [72,69,76,79,32,120,13,10,77,65,73,76,32,70,82,79,77,58,60,109,101,64,104,101,114,101,46,111,114,103,62,13,10,82,67,80,84,32,84,79,58,60,106,64,97,46,111,114,103,62,13,10,68,65,84,65,13,10,104,101,108,108,111,13,10,46,46,13,10,46],
 [72,69,76,79,32,120,13,10,65,85,84,72,32,80,76,65,73,78,32,65,72,85,65,100,119,61,61,13,10,77,65,73,76,32,70,82,79,77,58,60,109,101,64,104,101,114,101,46,111,114,103,62,13,10,82,67,80,84,32,84,79,58,60,109,64,99,46,111,114,103,62,13,10,82,67,80,84,32,84,79,58,60,110,64,100,46,111,114,103,62,13,10,82,67,80,84,32,84,79,58,60,106,64,97,46,111,114,103,62,13,10,68,65,84,65,13,10,116,111,32,116,104,114,101,101,13,10,46]]
def LL:List (List UInt8):=[[72,69,76,79,32,120],
 [69,72,76,79,32,121,46,122],
 [65,85,84,72,32,80,76,65,73,78,32,65,72,85,65,100,119,61,61],
 [65,85,84,72,32,80,76,65,73,78,32,100,81,66,49,65,72,99,61],
 [65,85,84,72,32,80,76,65,73,78,32,65,72,85,65,101,65,61,61],
 [65,85,84,72,32,80,76,65,73,78,32,65,72,89,65,98,71,57,117,90,121,66,51,98,51,74,107],
 [65,85,84,72,32,80,76,65,73,78,32,100,103,66,49,65,72,99,61],
 [78,79,79,80],
 [82,83,69,84],
 [81,85,73,84],
 [87,72,65,84],
 [72,69,76,79],
 [77,65,73,76,32,70,82,79,77,58,60,97,64,98,62,32,83,73,90,69,61,50,48,48,48],
 [77,65,73,76,32,70,82,79,77,58,60,62],
 [109,97,105,108,32,102,114,111,109,58,60,109,101,64,72,69,82,69,46,111,114,103,62],
 [77,65,73,76,32,70,82,79,77,58,60,120,64,99,46,100,62,32,83,73,90,69,61,53],
 [82,67,80,84,32,84,79,58,60,106,64,97,46,111,114,103,62],
 [82,67,80,84,32,84,79,58,60,107,64,65,46,79,82,71,62],
 [82,67,80,84,32,84,79,58,60,108,64,98,46,110,101,116,62],
 [82,67,80,84,32,84,79,58,60,109,64,99,46,111,114,103,62],
 [82,67,80,84,32,84,79,58,60,110,64,100,46,111,114,103,62],
 [114,99,112,116,32,116,111,58,60,106,64,65,46,111,114,103,62],
 [68,65,84,65],
 [104,101,108,108,111],
 [46,46,116,119,111,32,100,111,116,115],
 [],
 [46],
 [97,32,108,105,110,101,32,111,102,32,97,32,98,111,100,121,32,116,104,97,116,32,105,115,32,108,111,110,103,101,114,32,116,104,97,110,32,109,111,115,116],
 [77,65,73,76,32,70,82,79,77,58,60,109,101,64,104,101,114,101,46,111,114,103,62],
 [46,46],
 [116,111,32,116,104,114,101,101]]
def mg:List UInt8:=[65,85,84,72]
def gZ:List UInt8:=[82,67,80,84]
def fT:List UInt8:=[81,85,73,84]
def j3 (l:List UInt8):Bool:=bu l [82,83,69,84] || bu l [77,65,73,76] || bu l [72,69,76,79] || bu l [69,72,76,79]
def fV (l:List UInt8):List UInt8:=(fq ((l.take (l.length - 1)).drop 9)).1++[64]++(fq ((l.take (l.length - 1)).drop 9)).2.1
def Ke:List UInt8:=[97,46,111,114,103]
def Ki:List UInt8:=[98,46,110,101,116]
def na:List ByteArray:=[bs [97,46,111,114,103],bs [66,46,110,101,116]]
def xJ (t:List UInt8):Bool:=ET t == Ke || ET t == Ki
def zK (l:List UInt8):Bool:=decide (l.length≤100) && l.all fun b=>decide (32≤b.toNat) && decide (b.toNat≤126)
def JI (l:List UInt8):Bool:=
 zK l && (bu l fT == ((bn l false).verb == 2)) &&
 (!((bn l false).verb == 4 || (bn l false).verb == 6 || (bn l false).verb == 7 || (bn l false).verb == 9) || j3 l) &&
 (!j3 l || ((bn l false).verb == 4 || (bn l false).verb == 6 || (bn l false).verb == 7 || (bn l false).verb == 9 || (bn l false).verb == 1)) &&
 (bu l mg == ((bn l false).verb == 8)) && (bu l gZ == ((bn l false).verb == 10)) &&
 (!((bn l false).verb == 10) || (decide (10≤l.length) && fV l == (bn l false).name && xJ (bn l false).name == ((fq (bn l false).name).2.2 && na.any (my (bs (fq (bn l false).name).2.1))))) &&
 decide ((bn l false).verb≤10)
theorem J9:LL.all JI=true:=by kernel_rfl
def mh:Nat→List UInt8→Bool
 | 0,_=>false
 | n+1,l=>LL.contains (gf l).1 && (decide ((gf l).2=[]) || mh n (gf l).2)
theorem Hn:kA.all (mh 9)=true:=by kernel_rfl
theorem AZ:kA.all (fun l=>decide (l.length≤200))=true:=by kernel_rfl
structure tr (l:List UInt8):Prop where
 ok:zK l=true
 quit:bu l fT=((bn l false).verb == 2)
 over:((bn l false).verb=4∨(bn l false).verb=6∨(bn l false).verb=7∨(bn l false).verb=9)→j3 l=true
 overs:j3 l=true→((bn l false).verb=4∨(bn l false).verb=6∨(bn l false).verb=7∨(bn l false).verb=9∨(bn l false).verb=1)
 auth:bu l mg=((bn l false).verb == 8)
 rcpt:bu l gZ=((bn l false).verb == 10)
 addr:(bn l false).verb=10→10≤l.length∧fV l=(bn l false).name∧xJ (bn l false).name=((fq (bn l false).name).2.2 && na.any (my (bs (fq (bn l false).name).2.1)))
 most:(bn l false).verb≤10
theorem pZ {l:List UInt8} (h:l∈LL):tr l:=by
 have:=List.all_eq_true.1 J9 l h;unfold JI at this;simp only [Bool.and_eq_true,Bool.or_eq_true,Bool.not_eq_true',beq_iff_eq,decide_eq_true_eq] at this;obtain ⟨⟨⟨⟨⟨⟨⟨d,f⟩,b⟩,c⟩,g⟩,i⟩,a⟩,j⟩:=this;refine ⟨d,f,fun e=>?_,fun e=>?_,g,i,fun e=>?_,j⟩
 ·rcases b with b | b
  ·rw [Bool.or_eq_false_iff,Bool.or_eq_false_iff,Bool.or_eq_false_iff] at b;simp only [beq_eq_false_iff_ne] at b;omega
  ·exact b
 ·rcases c with c | c
  ·rw [e] at c;cases c
  ·omega
 ·rcases a with a | a
  ·rw [beq_eq_false_iff_ne] at a;exact absurd e a
  ·exact ⟨a.1.1,a.1.2,a.2⟩
theorem FY {p:List UInt8} {b:UInt8} (a:b.toNat≠10) (e:p.length < 102):j4 p b=(p++[b],none):=by
 have c:pK (p++[b])=false:=by
  unfold pK Lib.hasSuffix;rw [←Bool.not_eq_true];intro h;have h:=List.isSuffixOf_iff_suffix.1 h;obtain ⟨t,d⟩:=h;have:=congrArg List.getLast? d;rw [show t++[13,10]=(t++[13])++[10] by simp,List.getLast?_concat,List.getLast?_concat] at this
  injection this with this;exact a (by rw [←this];rfl)
 unfold j4;rw [c,if_neg (by decide)];unfold lk;rw [if_neg (by rw [List.length_append,List.length_singleton];omega)]
theorem IE {p:List UInt8}:j4 (p++[13]) 10=([],some (jw p)):=by
 have a:pK (p++[13]++[10])=true:=by
  unfold pK Lib.hasSuffix;exact List.isSuffixOf_iff_suffix.2 ⟨p,by simp⟩
 unfold j4;rw [a,if_pos rfl]
 congr 3
 rw [show p++[13]++[10]=p++[13,10] by simp,List.length_append,show ([13,10]:List UInt8).length=2 from rfl,Nat.add_sub_cancel,List.take_left]
theorem xI (c:bX) (S:aa) (a d:List UInt8):∀(l:List UInt8) (s:bG),s.over=false→(∀b∈l,b.toNat≠10)→s.wait.length+l.length≤101→cL c (s,S,a,d) l=({s with wait:=s.wait++l},S,a,d)
 | [],s,_,_,_=>by
  show (s,S,a,d)=_;rw [List.append_nil]
 | b::r,s,ho,hb,hl=>by
  rw [List.length_cons] at hl;show cL c (gQ c (s,S,a,d) b) r=_
  have e:gQ c (s,S,a,d) b=({s with wait:=s.wait++[b]},S,a,d):=by
   unfold gQ;simp only [ho,Bool.false_eq_true,if_false];rw [FY (hb b (List.mem_cons_self ..)) (by omega)]
  rw [e,xI c S a d r {s with wait:=s.wait++[b]} ho (fun x f=>hb x (List.mem_cons_of_mem _ f)) (by show (s.wait++[b]).length+r.length≤101;rw [List.length_append,List.length_singleton];omega)];show ({s with wait:=s.wait++[b]++r},S,a,d)=_;rw [List.append_assoc];rfl
theorem uQ {l:List UInt8} (h:zK l=true):l.length≤100∧(∀b∈l,b.toNat≠10∧b.toNat≠13)∧jw l=(l,false):=by
 unfold zK at h;rw [Bool.and_eq_true,decide_eq_true_eq,List.all_eq_true] at h;have a:∀b∈l,32≤b.toNat∧b.toNat≤126:=fun b a=>by have:=h.2 b a;rwa [Bool.and_eq_true,decide_eq_true_eq,decide_eq_true_eq] at this
 refine ⟨h.1,fun b x=>by have:=a b x;omega,?_⟩
 unfold jw;rw [if_neg];rw [Bool.or_eq_true,decide_eq_true_eq,List.any_eq_true];rintro (e | ⟨b,d,c⟩)
 ·omega
 ·have:=a b d;unfold tD at c;simp only [Bool.or_eq_true,decide_eq_true_eq] at c;omega
theorem lQ (c:bX) (s:bG) (S:aa) (a d:List UInt8) {l:List UInt8} (h:zK l=true) (f:s.over=false) (g:s.wait=[]):cL c (s,S,a,d) (l++[13,10])=((aO c s S a l false).1,(aO c s S a l false).2.1,(aO c s S a l false).2.2.1,d++(aO c s S a l false).2.2.2.flatten):=by
 obtain ⟨o,m,n⟩:=uQ h;have j:l++[13,10]=(l++[13])++[10]:=by simp
 unfold cL;rw [j,List.foldl_append]
 have i:=xI c S a d (l++[13]) s f (fun b e=>by
  rcases List.mem_append.1 e with e | e
  ·exact (m b e).1
  ·rw [List.mem_singleton.1 e];decide) (by rw [g,List.length_append,List.length_nil,List.length_singleton];omega)
 unfold cL at i;rw [i,g,List.nil_append];show gQ c ({s with wait:=l++[13]},S,a,d) 10=_;unfold gQ;simp only [f,Bool.false_eq_true,if_false];rw [IE,n]
 have k:(bG.mk s.nets s.greeted s.known false [] s.tx)=s:=by
  cases s
  cases f
  cases g
  rfl
 simp only [k]
theorem E6 (c:bX) (s:bG) (S:aa) (a:List UInt8) {l:List UInt8} (h:zK l=true) (b:s.over=false) (d:s.wait=[]):cL c (s,S,a,[]) (l++[13,10])=((aO c s S a l false).1,(aO c s S a l false).2.1,(aO c s S a l false).2.2.1,(aO c s S a l false).2.2.2.flatten):=lQ c s S a [] h b d
theorem gI (c:bX) (s:bG) (S:aa) (a b:List UInt8) {l:List UInt8} (h:zK l=true) (d:s.over=false) (e:s.wait=[]) (r:List UInt8):cL c (s,S,a,b) (l++[13,10]++r)=cL c ((aO c s S a l false).1,(aO c s S a l false).2.1,(aO c s S a l false).2.2.1,b++(aO c s S a l false).2.2.2.flatten) r:=by
 rw [←lQ c s S a b h d e];unfold cL;rw [List.foldl_append]
open Go.ChangeMaps (setBlock)
theorem Ic (l:List (Nat×List UInt8)):∀u∈aR l,u.oneCell'=true:=by
 intro u a;unfold aR at a;obtain ⟨x,_,b⟩:=List.mem_flatMap.1 a;simp only [List.mem_cons,List.not_mem_nil,or_false] at b
 rcases b with rfl | rfl <;> rfl
theorem Cs (l:List (Nat×List UInt8)) (v:Value) (w:World) (h:bg w v l.length 2 (aR l)) (J:l.length≤255):
  Calls Tryz.prog 82 #[v] w fun e A=>∃a c,e= .returned (.slice a l.length c)∧A.ownsRow w.heap.size 162 2 (.slice a l.length c) l.length (aR l)∧Below w.heap.size w A:=by
 obtain ⟨a,f,G⟩:=aE h;subst G
 cases a with
 | none=>
  have i:l.length=0:=by
   rcases h.2 with ⟨i,_⟩ | ⟨b,H,r,e,_⟩
   ·exact i
   ·cases e
  have m:l=[]:=List.length_eq_zero_iff.1 i;subst m;clear h;have I:=fun (w:World) (a:Option Addr) (n c o d:Nat)=>Lib.run_eql_slice_nil (P:=Tryz.prog) w 102 _ a n c o d Tryz.underlying102;go_enter Tryz.func82,Tryz.ntmps82;go_wp2_with fail
  go_ret;exact ⟨none,0,rfl,World.ownsRow_nil _ _ _ _,Below.refl _ _⟩
 | some a=>
  have z:(w.alloc (.cells #[] 162)).heap[w.heap.size]? =some (.cells #[] 162 (0,0)):=heap_alloc_new w _;obtain ⟨g,F,p,y,x,t,j⟩:=kr (P:=Tryz.prog) (w.alloc (.cells #[] 162)) 102 102 162 (.agg #[.int .i64 0,.string ⟨#[]⟩]) 2 24 Tryz.underlying102 lR rfl (by decide) w.heap.size z (.slice (some a) l.length f) l.length (aR l) (h.below ((Below.refl _ _).alloc (Nat.le_refl _) _)) (Ic l) (by unfold maxLen;omega) (by omega);have s:Below w.heap.size w p:=((Below.refl w.heap.size w).alloc (Nat.le_refl _) _).grown t (by simp) (fun k u=>by injection u with u;omega);have E:=Lib.hid y;have C:=Lib.hid x;have B:=Lib.hid s;clear y x s t j z h;have I:=fun (w:World) (a:Option Addr) (n c o d:Nat)=>Lib.run_eql_slice_nil (P:=Tryz.prog) w 102 _ a n c o d Tryz.underlying102;go_enter Tryz.func82,Tryz.ntmps82
  go_wp2_with (first
   | (at_builtin;refine bB rfl _ _ 102 rfl _ _ (.slice (some ⟨g,0,none⟩) l.length F) p rfl rfl E.out ?_)
   | fail)
  go_ret;exact ⟨_,_,rfl,C.out,B.out⟩
structure D5 (w W:World) (mb:Nat) (q:Nat→Nat) (S:aa) (D:Nat→Int×Int) (seen:Array Nat) (v:Value) (L:List Nat):Prop where
 below:Below w.heap.size w W
 big:w.heap.size+2≤W.heap.size
 out:W.heap[w.heap.size]? =some (.cells #[.int .i64 0,.string ⟨#[]⟩,.slice none 0 0,.string ⟨#[]⟩] 104 (0,0))
 it:W.heap[w.heap.size+1]? =some (.mapIter (some mb) S.items.length seen S.items.length)
 row:W.ownsRow 0 3 1 v L.length ((iK L).map fun (i:Int)=> .int .i64 i)
 own:∀k,v.ownBlock=some k→w.heap.size+2≤k
 mem:∀i∈L,i∈S.live∧(D i).1≤S.time
 all:∀i∈S.live,seen.contains i=true→(D i).1≤S.time→i∈L
 cnt:L.length+(Go.leftOf (cO q S.live) seen).size≤S.live.length
section
variable {w W W':World} {mb:Nat} {q:Nat→Nat} {S:aa} {D:Nat→Int×Int} {seen:Array Nat} {v v':Value} {L:List Nat}
theorem D5.keep (h:D5 w W mb q S D seen v L) (a:Below W.heap.size W W'):D5 w W' mb q S D seen v L:=
 ⟨h.below.trans (a.mono (by have:=h.big;omega)),Nat.le_trans h.big a.size,ae a h.out,ae a h.it,aA h.row fun _ _ e _=>ae a e,h.own,h.mem,h.all,h.cnt⟩
theorem D5.step (h:D5 w W mb q S D seen v L) {i:Nat} (m:nM q i∈(Go.leftOf (cO q S.live) seen).toList) (l:¬(D i).1≤S.time):D5 w (setBlock W (w.heap.size+1) (.mapIter (some mb) S.items.length (seen.push i) S.items.length)) mb q S D (seen.push i) v L:=by
 have c:=ke W (w.heap.size+1) (.mapIter (some mb) S.items.length (seen.push i) S.items.length);have d:=nT m;have d:(Go.leftOf (cO q S.live) (seen.push i)).size < (Go.leftOf (cO q S.live) seen).size:=d;refine ⟨h.below.trans (c.below (by omega)),by rw [c.1];exact h.big,aP c h.out (by omega),s9 (ah h.it) _,aA h.row fun g f e _=>aP c e fun k=>?_,h.own,h.mem,fun j n b a=>?_,by have:=h.cnt;omega⟩
 ·rw [k,h.it] at e;simp at e
 ·rw [Array.contains_push,Bool.or_eq_true] at b
  rcases b with b | b
  ·exact h.all j n b a
  ·have:j=i:=by simpa using b
   rw [this] at a;exact absurd a l
theorem D5.plus (h:D5 w W mb q S D seen v L) {i:Nat} (H:i∈S.live) (G:nM q i∈(Go.leftOf (cO q S.live) seen).toList) (F:(D i).1≤S.time) {b s:World} (A:b=W∨b=W.drew) (r:aL (w.heap.size+1) b (setBlock b (w.heap.size+1) (.mapIter (some mb) S.items.length (seen.push i) S.items.length))) (m:Below (setBlock b (w.heap.size+1) (.mapIter (some mb) S.items.length (seen.push i) S.items.length)).heap.size (setBlock b (w.heap.size+1) (.mapIter (some mb) S.items.length (seen.push i) S.items.length)) W') (p:aH (fun k=>v.ownBlock=some k) W' s) (C:s.ownsRow 0 3 1 v' (L.length+1) (((iK L).map fun (i:Int)=> .int .i64 i)++[.int .i64 ((i:Int)+1)])) (I:∀g,v'.ownBlock=some g→v.ownBlock=some g∨W'.heap.size≤g):D5 w s mb q S D (seen.push i) v' (L++[i]):=by
 have B:=nT G;have B:(Go.leftOf (cO q S.live) (seen.push i)).size < (Go.leftOf (cO q S.live) seen).size:=B;have z:b.heap=W.heap:=by rcases A with e | e <;> rw [e];rfl
 have y:w.heap.size+2≤b.heap.size:=by rw [z];exact h.big
 have E:Below w.heap.size w b:=by rcases A with e | e <;> rw [e];exact h.below;exact h.below.drew
 obtain ⟨o,l⟩:∃o,setBlock b (w.heap.size+1) (.mapIter (some mb) S.items.length (seen.push i) S.items.length)=o:=⟨_,rfl⟩;have x:o.heap[w.heap.size+1]? =some (.mapIter (some mb) S.items.length (seen.push i) S.items.length):=by rw [←l];exact s9 (by omega) _
 rw [l] at r m;have J:=r.1;have f:w.heap.size+2≤W'.heap.size:=by have:=m.size;omega
 have c:∀k,k < w.heap.size+2→¬v.ownBlock=some k:=fun k K e=>by have:=h.own k e;omega
 have n:o.heap[w.heap.size]? =some (.cells #[.int .i64 0,.string ⟨#[]⟩,.slice none 0 0,.string ⟨#[]⟩] 104 (0,0)):=aP r (by rw [z];exact h.out) (by omega);have t:Below w.heap.size w W':=(E.trans (r.below (by omega))).trans (m.mono (by omega));refine ⟨t.trans ?_,Nat.le_trans f p.size,p.some_ (ae m n) (c _ (by omega)),p.some_ (ae m x) (c _ (by omega)),?_,fun k e=>(I k e).elim (h.own k) (fun e=>by omega),fun j d=>?_,fun j d a u=>?_,by rw [List.length_append];have:=h.cnt;simp only [List.length_cons,List.length_nil];omega⟩
 ·exact p.toBelow (fun k e=>by have:=h.own k e;omega) (by omega)
 ·rw [List.length_append];unfold iK at C ⊢;rw [List.map_append,List.map_append];exact C
 ·rw [List.mem_append,List.mem_singleton] at d
  rcases d with d | rfl
  ·exact h.mem j d
  ·exact ⟨H,F⟩
 ·rw [Array.contains_push,Bool.or_eq_true] at a;rw [List.mem_append,List.mem_singleton]
  rcases a with a | a
  ·exact .inl (h.all j d a u)
  ·exact .inr (by simpa using a)
end
open Go.ChangeMaps (setBlock)
def Gi (S:aa) (D:Nat→Int×Int) (w:World) (e:Ending) (w':World):Prop:=
 Below w.heap.size w w'∧((∃i∈S.live,(D i).1≤S.time∧∃a c,e= .returned (.tuple #[.agg #[.int .i64 ((i:Int)+1),.string (bs (S.mailOf i).frm),.slice a (S.stayOf i).length c,.string (bs (S.mailOf i).body)],.bool true])∧w'.ownsRow w.heap.size 162 2 (.slice a (S.stayOf i).length c) (S.stayOf i).length (aR (S.stayOf i)))∨
  ((∀i∈S.live,S.time < (D i).1)∧e= .returned (.tuple #[.agg #[.int .i64 0,.string ⟨#[]⟩,.slice none 0 0,.string ⟨#[]⟩],.bool false])))
theorem Ep {w W:World} {a b c d:Value} {sb:Nat} (h:W.heap[sb]? =some (.cells #[.int .i64 0,.string ⟨#[]⟩,.slice none 0 0,.string ⟨#[]⟩] 104 (0,0))) (f:Below w.heap.size w W) (g:w.heap.size≤sb):
  ((((W.setCell ⟨sb,0,none⟩ a).setCell ⟨sb,1,none⟩ b).setCell ⟨sb,2,none⟩ c).setCell ⟨sb,3,none⟩ d).heap[sb]? =some (.cells #[a,b,c,d] 104 (0,0))∧Below w.heap.size w ((((W.setCell ⟨sb,0,none⟩ a).setCell ⟨sb,1,none⟩ b).setCell ⟨sb,2,none⟩ c).setCell ⟨sb,3,none⟩ d)∧aL sb W ((((W.setCell ⟨sb,0,none⟩ a).setCell ⟨sb,1,none⟩ b).setCell ⟨sb,2,none⟩ c).setCell ⟨sb,3,none⟩ d):=by
 have e:aL sb W ((((W.setCell ⟨sb,0,none⟩ a).setCell ⟨sb,1,none⟩ b).setCell ⟨sb,2,none⟩ c).setCell ⟨sb,3,none⟩ d):=((((aL.refl _ _).setCell _).setCell _).setCell _).setCell _;exact ⟨heap_setCell_same _ _ 3 _ _ _ (heap_setCell_same _ _ 2 _ _ _ (heap_setCell_same _ _ 1 _ _ _ (heap_setCell_same _ _ 0 _ _ _ h))),f.trans (e.below g),e⟩
theorem Bb (Y pb o:Nat) (q:Nat→Nat) (vr:Value) (S:aa) (D:Nat→Int×Int) (w:World) (h:bh Y w pb o q vr S) (hd:jk w q S.live D) (e2:S.Ok) (hn:S.items.length≤1048576):
  Calls Tryz.prog 47 #[.pointer (some ⟨pb,0,none⟩)] w (Gi S D w):=by
 have h5:=uG S;obtain ⟨H,F⟩:∃H:World,w.alloc (.cells #[.int .i64 0,.string ⟨#[]⟩,.slice none 0 0,.string ⟨#[]⟩] 104)=H:=⟨_,rfl⟩;have Ba:Below w.heap.size w H:=by rw [←F];exact (Below.refl _ _).alloc (Nat.le_refl _) _
 have za:H.heap.size=w.heap.size+1:=by rw [←F];simp
 have ha:=h.keep Ba;have e4:=run_range_map (P:=Tryz.prog) H 115 3 122 o (cO q S.live) S.items.length Tryz.underlying115 ha.map;have c3:H.cell? ⟨pb,3,none⟩=some (.map (some o)):=by rw [Lib.cell_of_heap ha.bag];rfl
 have D0:D5 w (H.alloc (.mapIter (some o) S.items.length #[] S.items.length)) o q S D #[] (.slice none 0 0) []:=by
  have hb:Below H.heap.size H (H.alloc (.mapIter (some o) S.items.length #[] S.items.length)):=(Below.refl _ _).alloc (Nat.le_refl _) _;refine ⟨Ba.trans (hb.mono (by omega)),by simp;omega,ae hb (by rw [←F];exact heap_alloc_new w _),?_,World.ownsRow_nil _ _ _ _,(fun k e=>by cases e),(fun i m=>by cases m),(fun i _ hs=>by simp at hs),?_⟩
  ·rw [←za];exact heap_alloc_new H _
  ·have:(Go.leftOf (cO q S.live) #[]).size≤(cO q S.live).size:=Array.size_filter_le;have e:(cO q S.live).size=S.live.length:=by simp [cO]
   simp only [List.length_nil];omega
 have a6:=Lib.hid D0;have g0:=Lib.hid F;have HH:=Lib.hid h;have f1:=Lib.hid hd;have f5:=Lib.hid e2;rw [←F] at e4 c3;clear h D0 ha hd e2 Ba F;go_enter Tryz.func47,Tryz.ntmps47;go_wp2_with fail
 rw [g0.out];obtain ⟨W0,d6⟩:∃W0:World,H.alloc (.mapIter (some o) S.items.length #[] S.items.length)=W0:=⟨_,rfl⟩;rw [d6] at a6 ⊢;clear d6 e4 c3;go_loopw [4,5,6] (fun v _ _ w'=>∃(f:Array Nat) (L:List Nat),Hid (D5 w w' o q S D f v L)) (fun _ _ _ w'=>(Go.leftOf (cO q S.live) (w'.iterSeen (w.heap.size+1))).size)
 case atStart=>exact ⟨#[],[],a6⟩
 case round=>
  clear a6;obtain ⟨f,L,l⟩:=hrel;obtain ⟨av,cv,ev⟩:=aE (aF l.out.row);subst ev;have Hr:=HH.out.keep l.out.below
  have h2:=run_next_at (P:=Tryz.prog) wr 0 (w.heap.size+1) o S.items.length S.items.length f (cO q S.live) S.items.length l.out.it Hr.map (fun x hx=>by
   rw [cT] at hx;obtain ⟨i,m,rfl⟩:=List.mem_map.1 hx
   exact bq m) (Nat.le_refl _)
  rcases h2 with ⟨h0,N⟩ | ⟨e,he,w1,G,N⟩
  ·have s:∀i∈S.live,f.contains i=true:=fun i m=>by
    cases hs:f.contains i with
    | true=>rfl
    | false=>
     have hm:nM q i∈(Go.leftOf (cO q S.live) f).toList:=by
      unfold Go.leftOf;rw [Array.toList_filter,List.mem_filter,cT];refine ⟨List.mem_map.2 ⟨i,m,rfl⟩,?_⟩;show (!f.contains i)=true;rw [hs];rfl
     have e0:(Go.leftOf (cO q S.live) f).toList=[]:=List.eq_nil_of_length_eq_zero (by rw [Array.length_toList];exact h0);rw [e0] at hm
     cases hm
   have m0:∀W:World,Below wr.heap.size wr W→W.heap[w.heap.size]? =some (.cells #[.int .i64 0,.string ⟨#[]⟩,.slice none 0 0,.string ⟨#[]⟩] 104 (0,0)):=fun W hb=>ae hb l.out.out;have HM:=Lib.hid m0
   by_cases hL:L=[]
   ·have g5:L.length=0:=by rw [hL];rfl
    have Q:=m0 wr (Below.refl _ _);have a0:wr.cell? ⟨w.heap.size,0,none⟩=some (.int .i64 0):=by rw [Lib.cell_of_heap Q];rfl
    have a1:wr.cell? ⟨w.heap.size,1,none⟩=some (.string ⟨#[]⟩):=by rw [Lib.cell_of_heap Q];rfl
    have a2:wr.cell? ⟨w.heap.size,2,none⟩=some (.slice none 0 0):=by rw [Lib.cell_of_heap Q];rfl
    have a3:wr.cell? ⟨w.heap.size,3,none⟩=some (.string ⟨#[]⟩):=by rw [Lib.cell_of_heap Q];rfl
    have b0:=Lib.frozen_of_heap Q 0;have b1:=Lib.frozen_of_heap Q 1;have b2:=Lib.frozen_of_heap Q 2;have b3:=Lib.frozen_of_heap Q 3
    have B:Hid (∀i∈S.live,S.time < (D i).1):=Lib.hid (fun i m=>by
     by_cases U:(D i).1≤S.time
     ·have:=l.out.all i m (s i m) U;rw [hL] at this;cases this
     ·omega)
    have HE:=Lib.hid (Ep (w:=w) (a:= .int .i64 0) (b:= .string ⟨#[]⟩) (c:= .slice none 0 0) (d:= .string ⟨#[]⟩) Q l.out.below (Nat.le_refl _));rw [g5];clear m0 Q Hr s h0;go_wp2_with fail
    obtain ⟨z,h3⟩:∃z:World,((((wr.setCell ⟨w.heap.size,0,none⟩ (.int .i64 0)).setCell ⟨w.heap.size,1,none⟩ (.string ⟨#[]⟩)).setCell ⟨w.heap.size,2,none⟩ (.slice none 0 0)).setCell ⟨w.heap.size,3,none⟩ (.string ⟨#[]⟩))=z:=⟨_,rfl⟩;rw [h3] at HE ⊢;obtain ⟨X9,B9,_⟩:=HE.out;have c0:z.cell? ⟨w.heap.size,0,none⟩=some (.int .i64 0):=by rw [Lib.cell_of_heap X9];rfl
    have c1:z.cell? ⟨w.heap.size,1,none⟩=some (.string ⟨#[]⟩):=by rw [Lib.cell_of_heap X9];rfl
    have c2:z.cell? ⟨w.heap.size,2,none⟩=some (.slice none 0 0):=by rw [Lib.cell_of_heap X9];rfl
    have c3:z.cell? ⟨w.heap.size,3,none⟩=some (.string ⟨#[]⟩):=by rw [Lib.cell_of_heap X9];rfl
    refine bodyPost_ret (v:= .tuple #[.agg #[.int .i64 0,.string ⟨#[]⟩,.slice none 0 0,.string ⟨#[]⟩],.bool false]) (by simp [results,Tryz.results47,go_sem,c0,c1,c2,c3]) rfl ?_;exact ⟨B9,.inr ⟨B.out,rfl⟩⟩
   ·have g6:1≤L.length:=List.length_pos_iff.2 hL;have g7:L.length≤1048576:=by have:=l.out.cnt;omega
    have c7:=Lib.hid (Bi Y pb o q vr (.slice av L.length cv) S L wr Hr hn (fun i m=>(l.out.mem i m).1) g6 g7 (aF l.out.row));have h9:((L.length:Int) == 0)=false:=by rw [beq_eq_false_iff_ne];omega
    have b7:=Lib.hid l.out.below;have c6:=Lib.hid l.out.mem;clear m0 Hr s h0 l;go_wp2_with fail
    refine c7.out.mono ?_;rintro e y ⟨i,g9,rfl,b4⟩;obtain ⟨m,g8⟩:=c6.out i g9;have V:Below w.heap.size w y:=b7.out.trans (b4.mono b7.out.size);have X:=HH.out.keep V;have h8:y.cell? ⟨pb,3,none⟩=some (.map (some o)):=by rw [Lib.cell_of_heap X.bag];rfl
    have i0:(Instr.lookup 115 (.map (some o)) (.int .i64 ((i:Int)+1)) false).run Tryz.prog y= .ok (.pointer (some ⟨q i,0,none⟩)) y:=
     ig (t:=115) (e:=122) fU Tryz.underlying115 X.map (fun j hj=>by have:=bq hj;omega) i (by have:=bq m;omega) m false
    obtain ⟨_,vi,xi,bi,ri⟩:=X.mail i m;have i2:=dk f5.out i;obtain ⟨ai,ci,ei⟩:=aE (aF ri);subst ei;have b8:=Lib.hid (Cs (S.stayOf i) _ y.drew (aF ri) (by omega));have p1:y.drew.cell? ⟨q i,1,none⟩=some (.string (bs (S.mailOf i).frm)):=by show y.cell? _=_;rw [Lib.cell_of_heap bi];rfl
    have p2:y.drew.cell? ⟨q i,2,none⟩=some (.slice ai (S.stayOf i).length ci):=by show y.cell? _=_;rw [Lib.cell_of_heap bi];rfl
    have p3:y.drew.cell? ⟨q i,3,none⟩=some (.string (bs (S.mailOf i).body)):=by show y.cell? _=_;rw [Lib.cell_of_heap bi];rfl
    have h6:=Lib.hid bi;have e9:=Lib.hid V;have J:w.heap.size≤y.heap.size:=V.size;have g4:=Lib.hid (HM.out y b4);clear V X bi ri b4 c7;obtain ⟨fr,d3⟩:∃fr,(S.mailOf i).frm=fr:=⟨_,rfl⟩;obtain ⟨bo,d2⟩:∃bo,(S.mailOf i).body=bo:=⟨_,rfl⟩;obtain ⟨ln,a8⟩:∃ln,(S.stayOf i).length=ln:=⟨_,rfl⟩;rw [d3] at p1;rw [d2] at p3;rw [a8] at p2 b8;go_wp2_with fail
    go_region_law (first
     | (go_simp;go_at_call 82;refine b8.out.mono ?_;rintro e z ⟨a9,c9,rfl,e1,K⟩;have k1:z.cell? ⟨q i,1,none⟩=some (.string (bs fr)):=(K.cell (aC p1)).trans p1;have k3:z.cell? ⟨q i,3,none⟩=some (.string (bs bo)):=(K.cell (aC p3)).trans p3;have R:=ae K g4.out;have a0:z.cell? ⟨w.heap.size,0,none⟩=some (.int .i64 0):=(by rw [Lib.cell_of_heap R];rfl);have a1:z.cell? ⟨w.heap.size,1,none⟩=some (.string ⟨#[]⟩):=(by rw [Lib.cell_of_heap R];rfl);have a2:z.cell? ⟨w.heap.size,2,none⟩=some (.slice none 0 0):=(by rw [Lib.cell_of_heap R];rfl);have a3:z.cell? ⟨w.heap.size,3,none⟩=some (.string ⟨#[]⟩):=(by rw [Lib.cell_of_heap R];rfl);have b0:=Lib.frozen_of_heap R 0;have b1:=Lib.frozen_of_heap R 1;have b2:=Lib.frozen_of_heap R 2;have b3:=Lib.frozen_of_heap R 3;have f4:=Lib.hid e1;have d0:=Lib.hid R;have f0:Hid (Below w.heap.size w z):=Lib.hid ((e9.out.trans ((Below.refl y.heap.size y).drew.mono J)).trans (K.mono J));clear e1 K R;dsimp only))
    all_goals
     obtain ⟨u,O⟩:∃u:World,((((z.setCell ⟨w.heap.size,0,none⟩ (.int .i64 ((i:Int)+1))).setCell ⟨w.heap.size,1,none⟩ (.string (bs fr))).setCell ⟨w.heap.size,2,none⟩ (.slice a9 ln c9)).setCell ⟨w.heap.size,3,none⟩ (.string (bs bo)))=u:=⟨_,rfl⟩;rw [O];obtain ⟨E,a5,a7⟩:=Ep (w:=w) (a:= .int .i64 ((i:Int)+1)) (b:= .string (bs fr)) (c:= .slice a9 ln c9) (d:= .string (bs bo)) d0.out f0.out (Nat.le_refl _);rw [O] at E a5 a7;have c0:u.cell? ⟨w.heap.size,0,none⟩=some (.int .i64 ((i:Int)+1)):=by rw [Lib.cell_of_heap E];rfl
     have c1:u.cell? ⟨w.heap.size,1,none⟩=some (.string (bs fr)):=by rw [Lib.cell_of_heap E];rfl
     have c2:u.cell? ⟨w.heap.size,2,none⟩=some (.slice a9 ln c9):=by rw [Lib.cell_of_heap E];rfl
     have c3:u.cell? ⟨w.heap.size,3,none⟩=some (.string (bs bo)):=by rw [Lib.cell_of_heap E];rfl
     have c8:Hid (u.ownsRow w.heap.size 162 2 (.slice a9 ln c9) ln (aR (S.stayOf i))):=Lib.hid ((aA f4.out fun g d1 e _=>aP a7 e fun e'=>by rw [e',d0.out] at e;simp at e).mono J);have b6:=Lib.hid a5;clear O E a5 a7 a0 a1 a2 a3 b0 b1 b2 b3 k1 k3 p1 p2 p3;go_wp2_with fail
     refine bodyPost_ret (v:= .tuple #[.agg #[.int .i64 ((i:Int)+1),.string (bs fr),.slice a9 ln c9,.string (bs bo)],.bool true]) (by simp [results,Tryz.results47,go_sem,c0,c1,c2,c3]) rfl ?_;refine ⟨b6.out,.inl ⟨i,m,g8,a9,c9,?_,?_⟩⟩
     ·rw [d3,d2,a8]
     ·rw [a8];exact c8.out
  ·obtain ⟨i,m,rfl⟩:=xQ he;have M:=Lib.hid (nT he);have h4:=l.out.big;have T:w1.heap=wr.heap:=by rcases G with e | e <;> rw [e];rfl
   have B1:Below w.heap.size w w1:=by rcases G with e | e <;> rw [e];exact l.out.below;exact l.out.below.drew
   obtain ⟨p,r⟩:∃p:World,setBlock w1 (w.heap.size+1) (.mapIter (some o) S.items.length (f.push (nM q i).born) S.items.length)=p:=⟨_,rfl⟩;have S1:aL (w.heap.size+1) w1 p:=by rw [←r];exact ke _ _ _
   have V:Below w.heap.size w p:=B1.trans (S1.below (by omega));have I2:p.heap[w.heap.size+1]? =some (.mapIter (some o) S.items.length (f.push (nM q i).born) S.items.length):=by rw [←r];exact s9 (by rw [T];omega) _
   have X:=HH.out.keep V;rw [r] at N;have d8:=run_entry_at (P:=Tryz.prog) p (w.heap.size+1) o S.items.length f (cO q S.live) S.items.length (nM q i) I2 X.map (by rw [cT];exact List.mem_map.2 ⟨i,m,rfl⟩) (tR (gJ S));have c1:p.cell? ⟨pb,1,none⟩=some (.int .i64 S.time):=by rw [Lib.cell_of_heap X.bag];rfl
   obtain ⟨C,hC,d4,_⟩:=f1.out i m;have c4:p.cell? ⟨q i,4,none⟩=some (.int .i64 (D i).1):=by rw [Lib.cell_of_heap (ae V hC),d4]
   have a4:(nM q i).val= .pointer (some ⟨q i,0,none⟩):=rfl;have Z:(nM q i).key= .int .i64 ((i:Int)+1):=rfl;have b5:(nM q i).born=i:=rfl;rw [a4,Z] at N d8;have f2:=Lib.hid he;have f8:=Lib.hid G;have f9:=Lib.hid r;have f7:=Lib.hid S1;obtain ⟨ii,d9,e5,e6,e7⟩:=info_parts qP;have i1:L.length≤1048576:=by have:=l.out.cnt;omega
   have A:Hid ((D i).1≤S.time→∀n,∃g cp W3,(Builtin.append_ #[28,28] 28 #[.slice av L.length cv,.slice (some ⟨p.heap.size,0,none⟩) 1 1]).run Tryz.prog ((p.drewN n).alloc (.cells #[.int .i64 ((i:Int)+1)] 3))= .ok (.slice (some ⟨g,0,none⟩) (L.length+1) cp) W3∧D5 w W3 o q S D (f.push i) (.slice (some ⟨g,0,none⟩) (L.length+1) cp) (L++[i])):=Lib.hid (fun d7 n=>by
    have r1:w1.ownsRow 0 3 1 (.slice av L.length cv) L.length ((iK L).map fun (i:Int)=> .int .i64 i):=aA l.out.row fun g d1 e _=>by rw [T];exact e
    have r2:(p.drewN n).ownsRow 0 3 1 (.slice av L.length cv) L.length ((iK L).map fun (i:Int)=> .int .i64 i):=aA r1 fun g d1 e _=>aP S1 e fun e'=>by
     have:=l.out.it;rw [←T,←e',e] at this;simp at this
    obtain ⟨g,cp,W3,k1,k2,k3,k4⟩:=pv (P:=Tryz.prog) Tryz.underlying28 d9 e5 e6 e7 rfl (p.drewN n) ((p.drewN n).alloc (.cells #[.int .i64 ((i:Int)+1)] 3)) (.slice av L.length cv) (.int .i64 ((i:Int)+1)) L.length _ r2 rfl ((Below.refl _ _).alloc (Nat.le_refl _) _) (heap_alloc_new _ _) (by unfold maxLen;omega) (by omega);refine ⟨g,cp,W3,k1,l.out.plus (v':= .slice (some ⟨g,0,none⟩) (L.length+1) cp) m he d7 G (ke _ _ _) (W':=p.drewN n) (by rw [←r];exact bA _ _ _) k3 k2 (fun g' e=>?_)⟩;have e:g=g':=by simpa [Value.ownBlock] using e
    rw [←e];exact k4)
   have B:Hid (¬(D i).1≤S.time→∀n,D5 w (p.drewN n) o q S D (f.push i) (.slice av L.length cv) L):=Lib.hid (fun h1 n=>by
    have l1:D5 w w1 o q S D f (.slice av L.length cv) L:=by
     rcases G with e | e <;> rw [e]
     ·exact l.out
     ·exact l.out.keep ((Below.refl _ _).drew)
    have l2:=l1.step he h1;rw [show setBlock w1 (w.heap.size+1) (.mapIter (some o) S.items.length (f.push i) S.items.length)=p from r] at l2
    exact l2.keep (bA _ _ _))
   obtain ⟨d,ed⟩:∃d,(D i).1=d:=⟨_,rfl⟩;have h7:=Lib.hid ed;rw [ed] at c4;rw [ed] at A B;have c5:=Lib.hid l.out.it;clear a4 Z r S1 B1 V I2 X hC d4 G he T ed Hr l d9 e5 e6 e7 f2 f8 f9 f7 b5
   by_cases U:d≤(S.time:Int)
   ·have e8:=Lib.hid (A.out U);clear A B;go_wp2_with fail
    go_quiet (fail)
    obtain ⟨g,cp,W3,e3,d5⟩:=e8.out nq;have f6:=Lib.hid e3;have I:=Lib.hid d5;clear e3 d5
    go_wp2_with (first
     | (at_builtin;refine bB rfl _ _ 28 rfl _ _ (.slice (some ⟨g,0,none⟩) (L.length+1) cp) W3 rfl rfl f6.out ?_)
     | fail)
    exact ⟨⟨_,_,I⟩,by rw [ja I.out.it,ja c5.out];exact M.out⟩
   ·have f3:=Lib.hid (B.out U);clear A B;go_wp2_with fail
    go_quiet (fail)
    have I:=Lib.hid (f3.out nq);go_wp2_with fail
    exact ⟨⟨_,_,I⟩,by rw [ja I.out.it,ja c5.out];exact M.out⟩
structure ca where
 addr:Int
 known:Bool
 inside:Bool
 closed:Bool
 tos:List (List UInt8)
def dd (out:List UInt8):List UInt8:=if 4≤out.length then out.take 3 else []
def mf:List UInt8:=[50,53,48]
def vH:List UInt8:=[51,53,52]
def vG:List UInt8:=[50,51,53]
def Jx:List UInt8:=[50,50,49]
def uK (x:ca) (t:List UInt8):Bool:=xJ t || decide (x.addr / 256=1) || x.known
def gH (x:ca) (l out:List UInt8):ca:=
 if x.inside=true∧l≠[46] then x
 else if x.inside=true then {x with inside:=false,tos:=[]}
 else if dd out=vH then {x with inside:=true}
 else if dd out=vG∧bu l mg=true then {x with known:=true}
 else if dd out=mf∧bu l gZ=true then {x with tos:=jF x.tos (fV l)}
 else if bu l fT=true then {x with closed:=true}
 else if j3 l=true∧dd out=mf then {x with tos:=[]}
 else x
def fL (x:ca) (l out:List UInt8):List aX:=
 if x.inside=true∧l=[46]∧dd out=mf then [⟨kB out,0,[],x.tos,[]⟩] else []
def dp (x:ca) (l out:List UInt8):Bool:=
 if x.inside=true∧l≠[46] then decide (out≠[])
 else if x.inside=true then decide (dd out=mf) && !(x.tos.all (uK x))
 else if dd out=vH then false
 else if dd out=vG∧bu l mg=true then false
 else if dd out=mf∧bu l gZ=true then false
 else if bu l fT=true then decide (dd out≠Jx)
 else false
def JG (s:bG):Bool:=(s.tx.bind (·.body)).isSome
def IL (s:bG):List (List UInt8):=match s.tx with | some t=>t.tos | none=>[]
structure km (x:ca) (s:bG):Prop where
 closed:x.closed=false
 over:s.over=false
 wait:s.wait=[]
 known:x.known=s.known
 inside:x.inside=JG s
 tos:x.tos=IL s
 nets:s.nets=true→x.addr / 256=1
 may:∀t∈x.tos,uK x t=true
 addr:0≤x.addr∧x.addr < 1000
def fj (x:ca):Option bG→Prop
 | none=>x.closed=true
 | some s=>km x s
theorem fj.of {x:ca} {s:bG} (h:km x s):fj x (if s.over then none else some s):=by
 rw [if_neg (by rw [h.over];decide)];exact h
theorem o8:∀(k n a:Nat),n < 10 ^ (k+1)→∃e,(Lib.decDigits n).foldl mH a=a * 10 ^ e+n
 | 0,n,a,h=>by
  have h:n < 10:=by omega
  refine ⟨1,?_⟩;rw [Lib.decDigits,dif_pos h];show mH a (UInt8.ofNat (48+n))=_;unfold mH;have e:(UInt8.ofNat (48+n)).toNat=48+n:=by rw [UInt8.toNat_ofNat'];omega
  rw [e,if_pos (by omega)];omega
 | k+1,n,a,h=>by
  by_cases b:n < 10
  ·refine ⟨1,?_⟩;rw [Lib.decDigits,dif_pos b];show mH a (UInt8.ofNat (48+n))=_;unfold mH;have e:(UInt8.ofNat (48+n)).toNat=48+n:=by rw [UInt8.toNat_ofNat'];omega
   rw [e,if_pos (by omega)];omega
  ·obtain ⟨e,f⟩:=o8 k (n / 10) a (by rw [Nat.pow_succ] at h;omega);refine ⟨e+1,?_⟩;rw [Lib.decDigits,dif_neg b,List.foldl_append,f];show mH (a * 10 ^ e+n / 10) (UInt8.ofNat (48+n % 10))=_;unfold mH;have d:(UInt8.ofNat (48+n % 10)).toNat=48+n % 10:=by rw [UInt8.toNat_ofNat'];omega
   rw [d,if_pos (by omega),Nat.pow_succ,←Nat.mul_assoc];omega
theorem Lu (n:Nat):kB ([50,53,48,32,107,101,112,116,32]++Lib.itoa (n:Int)++[13,10])=n:=by
 have a:Lib.itoa (n:Int)=Lib.decDigits n:=by
  unfold Lib.itoa;rw [if_neg (by omega),Int.toNat_natCast]
 unfold kB;rw [a,List.append_assoc,List.drop_append_of_le_length (by decide),List.foldl_append,List.foldl_append];have b:(([50,53,48,32,107,101,112,116,32]:List UInt8).drop 4).foldl mH 0=0:=by decide
 obtain ⟨k,f⟩:∃k,n < 10 ^ (k+1):=⟨n,Nat.lt_of_lt_of_le (Nat.lt_pow_self (by decide:1 < 10)) (Nat.pow_le_pow_right (by decide) (Nat.le_succ n))⟩;obtain ⟨e,d⟩:=o8 k n 0 f;rw [b,d,Nat.zero_mul,Nat.zero_add];show mH (mH n 13) 10=n;unfold mH;rw [if_neg (by decide),if_neg (by decide)]
theorem pE (a b c e:UInt8) (r:List UInt8):dd (a::b::c::e::r)=[a,b,c]:=by
 unfold dd;rw [if_pos (by simp)];rfl
section
variable {c:bX} {x:ca} {s:bG} {S:aa} {recs l:List UInt8}
theorem qk (e:x.inside=false) {out:List UInt8} (a:dd out≠vH) (b:dd out≠vG) (d:dd out≠mf):gH x l out=(if bu l fT=true then {x with closed:=true} else x)∧fL x l out=[]∧dp x l out=if bu l fT=true then decide (dd out≠Jx) else false:=by
 unfold gH fL dp;simp [e,a,b,d]
theorem iP (b:x.inside=false) {out:List UInt8} (a:dd out=mf):gH x l out=(if bu l gZ=true then {x with tos:=jF x.tos (fV l)} else if bu l fT=true then {x with closed:=true} else if j3 l=true then {x with tos:=[]} else x)∧fL x l out=[]∧dp x l out=if bu l gZ=true then false else if bu l fT=true then decide (dd out≠Jx) else false:=by
 have d:mf≠vH:=by decide
 have e:mf≠vG:=by decide
 unfold gH fL dp;simp [b,a,d,e]
theorem BF (b:x.inside=false) {out:List UInt8} (a:dd out=vH):gH x l out={x with inside:=true}∧fL x l out=[]∧dp x l out=false:=by
 unfold gH fL dp;simp [b,a]
theorem BC (d:x.inside=false) {out:List UInt8} (a:dd out=vG) (b:bu l mg=true):gH x l out={x with known:=true}∧fL x l out=[]∧dp x l out=false:=by
 have e:vG≠vH:=by decide
 unfold gH fL dp;simp [d,a,e,b]
theorem Gv (C:tr l) (Z:c.doms=na) (h:km x s) (j:x.inside=false):fj (gH x l (bz c s (bn l false)).2.flatten) (if (bz c s (bn l false)).1.over then none else some (bz c s (bn l false)).1)∧fL x l (bz c s (bn l false)).2.flatten=[]∧dp x l (bz c s (bn l false)).2.flatten=false:=by
 have M:=C.quit;have G:=C.over;have H:=C.overs;have F:=C.auth;have Q:=C.rcpt;have E:=C.addr;have hm:=C.most;obtain ⟨k,W⟩:∃k,bn l false=k:=⟨_,rfl⟩;rw [W] at M G H F Q E hm ⊢
 have r:∀g,dd g≠vH→dd g≠vG→dd g≠mf→k.verb≠2→fj (gH x l g) (if s.over then none else some s)∧fL x l g=[]∧dp x l g=false:=fun g i n D X=>by
  obtain ⟨a,b,e⟩:=qk (l:=l) j i n D;have q0:bu l fT=false:=by rw [M,beq_eq_false_iff_ne];exact X
  rw [a,b,e,q0];exact ⟨fj.of h,rfl,rfl⟩
 have T:dd ni=[53,48,51]:=rfl
 by_cases d:fO s k.verb=false
 ·have e:bz c s k=(s,[ni]):=by unfold bz;rw [if_pos d]
  rw [e];have R:k.verb≠2:=fun e=>by rw [e] at d;cases d
  exact r ([ni]:List (List UInt8)).flatten (by decide) (by decide) (by decide) R
 have hv:k.verb=0∨k.verb=1∨k.verb=2∨k.verb=3∨k.verb=4∨k.verb=5∨k.verb=6∨k.verb=7∨k.verb=8∨k.verb=9∨k.verb=10:=by omega
 have K:k.verb≠2→bu l fT=false:=fun e=>by rw [M,beq_eq_false_iff_ne];exact e
 have L:k.verb≠10→bu l gZ=false:=fun e=>by rw [Q,beq_eq_false_iff_ne];exact e
 rcases hv with v | v | v | v | v | v | v | v | v | v | v
 ·have e:bz c s k=(s,[zm]):=by unfold bz;rw [if_neg d];simp only [v]
  rw [e];exact r ([zm]:List (List UInt8)).flatten (by decide) (by decide) (by decide) (by omega)
 ·have e:bz c s k=(s,[G8]):=by unfold bz;rw [if_neg d];simp only [v]
  rw [e];exact r ([G8]:List (List UInt8)).flatten (by decide) (by decide) (by decide) (by omega)
 ·have e:bz c s k=({s with over:=true},[G7]):=by unfold bz;rw [if_neg d];simp only [v]
  rw [e];obtain ⟨a,b,f⟩:=qk (l:=l) j (out:=([G7]:List (List UInt8)).flatten) (by decide) (by decide) (by decide);have q1:bu l fT=true:=by rw [M,v];rfl
  rw [a,b,f,q1];exact ⟨rfl,rfl,by decide⟩
 ·have e:bz c s k=(s,[jD]):=by unfold bz;rw [if_neg d];simp only [v]
  rw [e];obtain ⟨a,b,f⟩:=iP (l:=l) j (out:=([jD]:List (List UInt8)).flatten) (by decide);have o0:j3 l=false:=by rw [←Bool.not_eq_true];intro e;have:=H e;omega
  rw [a,b,f,L (by omega),K (by omega),o0];exact ⟨fj.of h,rfl,rfl⟩
 ·have e:bz c s k=({s with tx:=none},[jD]):=by unfold bz;rw [if_neg d];simp only [v]
  rw [e];obtain ⟨a,b,f⟩:=iP (l:=l) j (out:=([jD]:List (List UInt8)).flatten) (by decide);rw [a,b,f,L (by omega),K (by omega),G (by omega)];exact ⟨fj.of ⟨h.closed,h.over,h.wait,h.known,j,rfl,h.nets,(fun t m=>by cases m),h.addr⟩,rfl,rfl⟩
 ·cases m:s.tx with
  | none=>
   rw [v] at d;unfold fO at d;rw [m] at d;exact absurd rfl d
  | some t=>
   have e:bz c s k=({s with tx:=some {t with body:=some ⟨[],false,false⟩}},[zl]):=by unfold bz;rw [if_neg d];simp only [v,m]
   rw [e];obtain ⟨a,b,f⟩:=BF (l:=l) j (out:=([zl]:List (List UInt8)).flatten) (by decide);rw [a,b,f];exact ⟨fj.of ⟨h.closed,h.over,h.wait,h.known,rfl,by have:=h.tos;unfold IL at this;rw [m] at this;exact this,h.nets,h.may,h.addr⟩,rfl,rfl⟩
 ·have e:bz c s k=({s with greeted:=true,tx:=none},[[50,53,48,32]++cQ c++[13,10]]):=by unfold bz;rw [if_neg d];simp only [v]
  rw [e];obtain ⟨a,b,f⟩:=iP (l:=l) j (out:=([[50,53,48,32]++cQ c++[13,10]]:List (List UInt8)).flatten) (by rw [List.flatten_cons,List.append_assoc,List.append_assoc];exact pE _ _ _ _ _);rw [a,b,f,L (by omega),K (by omega),G (by omega)];exact ⟨fj.of ⟨h.closed,h.over,h.wait,h.known,j,rfl,h.nets,(fun t m=>by cases m),h.addr⟩,rfl,rfl⟩
 ·obtain ⟨q,e⟩:∃q,bz c s k=({s with greeted:=true,tx:=none},([50,53,48,45]++cQ c++[13,10])::q):=by unfold bz;rw [if_neg d];simp only [v];exact ⟨_,rfl⟩
  rw [e];obtain ⟨a,b,f⟩:=iP (l:=l) j (out:=(([50,53,48,45]++cQ c++[13,10])::q:List (List UInt8)).flatten) (by rw [List.flatten_cons,List.append_assoc,List.append_assoc];exact pE _ _ _ _ _);rw [a,b,f,L (by omega),K (by omega),G (by omega)];exact ⟨fj.of ⟨h.closed,h.over,h.wait,h.known,j,rfl,h.nets,(fun t m=>by cases m),h.addr⟩,rfl,rfl⟩
 ·by_cases i:(s.tx.isSome || s.known)=true
  ·have e:bz c s k=(s,[ni]):=by unfold bz;rw [if_neg d];simp only [v];rw [if_pos i]
   rw [e];exact r ([ni]:List (List UInt8)).flatten (by decide) (by decide) (by decide) (by omega)
  ·by_cases n:c.users.any (iV (bs k.shown))=true
   ·have e:bz c s k=({s with known:=true},[Fe]):=by unfold bz;rw [if_neg d];simp only [v];rw [if_neg i,if_pos n]
    rw [e];obtain ⟨a,b,f⟩:=BC (l:=l) j (out:=([Fe]:List (List UInt8)).flatten) (by decide) (by rw [F,v];rfl);rw [a,b,f];exact ⟨fj.of ⟨h.closed,h.over,h.wait,rfl,h.inside,h.tos,h.nets,(fun t _=>by unfold uK;simp),h.addr⟩,rfl,rfl⟩
   ·have e:bz c s k=(s,[G9]):=by unfold bz;rw [if_neg d];simp only [v];rw [if_neg i,if_neg n]
    rw [e];exact r ([G9]:List (List UInt8)).flatten (by decide) (by decide) (by decide) (by omega)
 ·by_cases i:s.tx.isSome=true
  ·have e:bz c s k=(s,[ni]):=by unfold bz;rw [if_neg d];simp only [v];rw [if_pos i]
   rw [e];exact r ([ni]:List (List UInt8)).flatten (by decide) (by decide) (by decide) (by omega)
  ·by_cases n:c.size < (k.size:Int)
   ·have e:bz c s k=(s,[uw]):=by unfold bz;rw [if_neg d];simp only [v];rw [if_neg i,if_pos n]
    rw [e];exact r ([uw]:List (List UInt8)).flatten (by decide) (by decide) (by decide) (by omega)
   ·have e:bz c s k=({s with tx:=some ⟨k.name,[],none⟩},[jD]):=by unfold bz;rw [if_neg d];simp only [v];rw [if_neg i,if_neg n]
    rw [e];obtain ⟨a,b,f⟩:=iP (l:=l) j (out:=([jD]:List (List UInt8)).flatten) (by decide);rw [a,b,f,L (by omega),K (by omega),G (by omega)];exact ⟨fj.of ⟨h.closed,h.over,h.wait,h.known,j,rfl,h.nets,(fun t m=>by cases m),h.addr⟩,rfl,rfl⟩
 ·cases m:s.tx with
  | none=>
   rw [v] at d;unfold fO at d;rw [m] at d;exact absurd rfl d
  | some t=>
   have o:x.tos=t.tos:=by have:=h.tos;unfold IL at this;rw [m] at this;exact this
   have A:t.body=none:=by
    have:=h.inside;rw [j] at this;unfold JG at this;rw [m] at this
    cases Y:t.body with
    | none=>rfl
    | some b=>rw [show (some t:Option mK).bind (·.body)=t.body from rfl,Y] at this;cases this
   obtain ⟨_,p,B⟩:=E v;have V:bu l gZ=true:=by rw [Q,v];rfl
   have e:bz c s k=({s with tx:=some {t with tos:=cY t.tos c.most (s.nets || s.known || dM c k.name) k.name}},[b9 t.tos c.most (s.nets || s.known || dM c k.name) k.name]):=by unfold bz;rw [if_neg d];simp only [v,m]
   rw [e];have P:dM c k.name=xJ k.name:=by unfold dM;rw [Z,B]
   have J:∀u,JG {s with tx:=some {t with tos:=u}}=false:=fun u=>by unfold JG;show (t.body).isSome=false;rw [A];rfl
   by_cases i:t.tos.contains k.name=true
   ·have w:cY t.tos c.most (s.nets || s.known || dM c k.name) k.name=t.tos:=by unfold cY;rw [if_pos i]
    have z:b9 t.tos c.most (s.nets || s.known || dM c k.name) k.name=jD:=by unfold b9;rw [if_pos i];rfl
    rw [w,z];obtain ⟨a,b,f⟩:=iP (l:=l) j (out:=([jD]:List (List UInt8)).flatten) (by decide);have N:jF x.tos (fV l)=x.tos:=by unfold jF;rw [p,o,if_pos i]
    rw [a,b,f,V,N];exact ⟨fj.of ⟨h.closed,h.over,h.wait,h.known,by rw [J];exact j,o,h.nets,h.may,h.addr⟩,rfl,rfl⟩
   ·by_cases n:(t.tos.length:Int)=c.most
    ·have w:cY t.tos c.most (s.nets || s.known || dM c k.name) k.name=t.tos:=by unfold cY;rw [if_neg i,if_pos n]
     have z:b9 t.tos c.most (s.nets || s.known || dM c k.name) k.name=[52,53,50,32,109,97,110,121,13,10]:=by unfold b9;rw [if_neg i,if_pos n]
     have O:({s with tx:=some {t with tos:=t.tos}}:bG)=s:=by rw [show ({t with tos:=t.tos}:mK)=t from rfl,←m]
     rw [w,z,O];exact r ([[52,53,50,32,109,97,110,121,13,10]]:List (List UInt8)).flatten (by decide) (by decide) (by decide) (by omega)
    ·cases D:(s.nets || s.known || dM c k.name) with
     | true=>
      have w:cY t.tos c.most true k.name=t.tos++[k.name]:=by unfold cY;rw [if_neg i,if_neg n,if_pos rfl]
      have z:b9 t.tos c.most true k.name=jD:=by unfold b9;rw [if_neg i,if_neg n,if_pos rfl];rfl
      rw [w,z];obtain ⟨a,b,f⟩:=iP (l:=l) j (out:=([jD]:List (List UInt8)).flatten) (by decide);have N:jF x.tos (fV l)=t.tos++[k.name]:=by unfold jF;rw [p,o,if_neg i]
      rw [a,b,f,V,N];refine ⟨fj.of ⟨h.closed,h.over,h.wait,h.known,by rw [J];exact j,rfl,h.nets,fun y I=>?_,h.addr⟩,rfl,rfl⟩
      rcases List.mem_append.1 I with I | I
      ·exact h.may y (by rw [o];exact I)
      ·rw [List.mem_singleton.1 I];show uK x k.name=true;unfold uK;rw [P] at D;rw [h.known]
       cases U:s.nets with
       | true=>rw [decide_eq_true (h.nets U)];simp
       | false=>rw [U] at D;revert D;cases s.known <;> cases xJ k.name <;> simp
     | false=>
      have w:cY t.tos c.most false k.name=t.tos:=by unfold cY;rw [if_neg i,if_neg n,if_neg (by decide)]
      have z:b9 t.tos c.most false k.name=[53,53,48,32,110,111,13,10]:=by unfold b9;rw [if_neg i,if_neg n,if_neg (by decide)]
      have O:({s with tx:=some {t with tos:=t.tos}}:bG)=s:=by rw [show ({t with tos:=t.tos}:mK)=t from rfl,←m]
      rw [w,z,O];exact r ([[53,53,48,32,110,111,13,10]]:List (List UInt8)).flatten (by decide) (by decide) (by decide) (by omega)
def po (c:bX) (x:ca) (s:bG) (S:aa) (recs l:List UInt8):Prop:=
 (fL x l (aO c s S recs l false).2.2.2.flatten=[]∧(aO c s S recs l false).2.1=S∧(aO c s S recs l false).2.2.1=recs)∨
 ∃t b,s.tx=some t∧t.body=some b∧l=[46]∧x.tos=t.tos∧fL x l (aO c s S recs l false).2.2.2.flatten=[⟨S.items.length+1,0,[],t.tos,[]⟩]∧(aO c s S recs l false).2.1=S.plus (eJ S t.frm t.tos b.text)∧(aO c s S recs l false).2.2.1=recs++bJ (cA (eJ S t.frm t.tos b.text))∧kB (aO c s S recs l false).2.2.2.flatten=S.items.length+1
theorem qR (D:tr l) (C:c.doms=na) (h:km x s):fj (gH x l (aO c s S recs l false).2.2.2.flatten) (if (aO c s S recs l false).1.over then none else some (aO c s S recs l false).1)∧dp x l (aO c s S recs l false).2.2.2.flatten=false∧po c x s S recs l:=by
 by_cases f:x.inside=true
 ·obtain ⟨t,j,b,m⟩:∃t,s.tx=some t∧∃b,t.body=some b:=by
   have:=h.inside;rw [f] at this;unfold JG at this
   cases j:s.tx with
   | none=>rw [j] at this;cases this
   | some t=>
    rw [j,show (some t:Option mK).bind (·.body)=t.body from rfl] at this
    cases m:t.body with
    | none=>rw [m] at this;cases this
    | some b=>exact ⟨t,rfl,b,m⟩
  have i:x.tos=t.tos:=by have:=h.tos;unfold IL at this;rw [j] at this;exact this
  have p:aO c s S recs l false=dn c s S recs t b l false:=by unfold aO;rw [j];simp only;rw [m]
  unfold po;rw [p]
  by_cases d:l=[46]
  ·have q:dn c s S recs t b l false=kz c s S recs t b:=by unfold dn;rw [if_pos d]
   rw [q];have I:∀g,gH x l g={x with inside:=false,tos:=[]}:=fun g=>by unfold gH;simp [f,d]
   have k:fj {x with inside:=false,tos:=[]} (if ({s with tx:=none}:bG).over then none else some {s with tx:=none}):=by
    exact fj.of ⟨h.closed,h.over,h.wait,h.known,rfl,rfl,h.nets,(fun t j=>by cases j),h.addr⟩
   have r:∀g,dd g≠mf→fL x l g=[]∧dp x l g=false:=fun g E=>by unfold fL dp;simp [f,d,E]
   rw [I];unfold kz
   by_cases u:b.bad=true
   ·rw [if_pos u];obtain ⟨n,o⟩:=r ([zm]:List (List UInt8)).flatten (by decide);exact ⟨k,o,.inl ⟨n,rfl,rfl⟩⟩
   ·rw [if_neg u]
    by_cases v:c.size < (b.text.length:Int)
    ·rw [if_pos v];obtain ⟨n,o⟩:=r ([uw]:List (List UInt8)).flatten (by decide);exact ⟨k,o,.inl ⟨n,rfl,rfl⟩⟩
    ·rw [if_neg v]
     by_cases w:jt c recs (eJ S t.frm t.tos b.text)=true
     ·rw [if_pos w];have B:([[50,53,48,32,107,101,112,116,32]++Lib.itoa ((S.items.length:Int)+1)++[13,10]]:List (List UInt8)).flatten=[50,53,48,32,107,101,112,116,32]++Lib.itoa ((S.items.length+1:Nat):Int)++[13,10]:=by simp
      have y:dd ([50,53,48,32,107,101,112,116,32]++Lib.itoa ((S.items.length+1:Nat):Int)++[13,10])=mf:=by rw [List.append_assoc];exact pE _ _ _ _ _
      have A:=Lu (S.items.length+1);simp only [B];refine ⟨k,?_,.inr ⟨t,b,j,m,d,i,?_,rfl,rfl,A⟩⟩
      ·unfold dp;simp only [f,d,ne_eq,not_true_eq_false,and_false,if_false,if_true,y,decide_true,Bool.true_and];rw [Bool.not_eq_false',List.all_eq_true];exact h.may
      ·unfold fL;rw [if_pos ⟨f,d,y⟩,A,i]
     ·rw [if_neg w];obtain ⟨n,o⟩:=r ([CR]:List (List UInt8)).flatten (by decide);exact ⟨k,o,.inl ⟨n,rfl,rfl⟩⟩
  ·have q:dn c s S recs t b l false=({s with tx:=some {t with body:=some (b.add l false c.size)}},S,recs,[]):=by unfold dn;rw [if_neg d]
   rw [q];have F:gH x l []=x:=by unfold gH;simp [f,d]
   have G:fL x l []=[]:=by unfold fL;simp [d]
   have H:dp x l []=false:=by unfold dp;simp [f,d]
   simp only [List.flatten_nil,F,G,H];exact ⟨fj.of (s:={s with tx:=some {t with body:=some (b.add l false c.size)}}) ⟨h.closed,h.over,h.wait,h.known,by rw [f];rfl,i,h.nets,h.may,h.addr⟩,trivial,.inl ⟨trivial,trivial,trivial⟩⟩
 ·have z:x.inside=false:=by simpa using f
  have p:aO c s S recs l false=((bz c s (bn l false)).1,S,recs,(bz c s (bn l false)).2):=by
   unfold aO
   cases j:s.tx with
   | none=>rfl
   | some t=>
    simp only;have:=h.inside;rw [z] at this;unfold JG at this;rw [j,show (some t:Option mK).bind (·.body)=t.body from rfl] at this
    cases m:t.body with
    | none=>rfl
    | some b=>rw [m] at this;cases this
  obtain ⟨a,b,e⟩:=Gv D C h z;unfold po;rw [p];exact ⟨a,e,.inl ⟨b,rfl,rfl⟩⟩
end
def nJ (l O:List UInt8):Prop:=
 4≤O.length∧
 ((dd O=vH∧j3 l=false)∨(dd O=vG∧bu l mg=true∧j3 l=false)∨(dd O=mf∧bu l gZ=true∧j3 l=false)∨
 (dd O=Jx∧bu l fT=true∧j3 l=false)∨(dd O=mf∧bu l gZ=false∧bu l fT=false∧j3 l=true)∨
 (dd O=mf∧bu l gZ=false∧bu l fT=false∧j3 l=false)∨(dd O≠vH∧dd O≠vG∧dd O≠mf∧bu l fT=false))
theorem Gu {c:bX} {s:bG} {l:List UInt8} (j:tr l):nJ l (bz c s (bn l false)).2.flatten:=by
 have y:=j.quit;have G:=j.over;have n:=j.overs;have m:=j.auth;have z:=j.rcpt;have F:=j.most;obtain ⟨k,D⟩:∃k,bn l false=k:=⟨_,rfl⟩;rw [D] at y G n m z F ⊢;have B:k.verb≠2→bu l fT=false:=fun e=>by rw [y,beq_eq_false_iff_ne];exact e
 have C:k.verb≠10→bu l gZ=false:=fun e=>by rw [z,beq_eq_false_iff_ne];exact e
 have x:k.verb≠4→k.verb≠6→k.verb≠7→k.verb≠9→k.verb≠1→j3 l=false:=fun a b c d e=>by rw [←Bool.not_eq_true];intro f;have:=n f;omega
 have i:∀O,4≤O.length→dd O≠vH→dd O≠vG→dd O≠mf→k.verb≠2→nJ l O:=fun O q r u w E=>⟨q,.inr (.inr (.inr (.inr (.inr (.inr ⟨r,u,w,B E⟩)))))⟩
 have o:∀O,4≤O.length→dd O=mf→k.verb≠2→k.verb≠10→nJ l O:=fun O q r u w=>by
  cases h:j3 l with
  | true=>exact ⟨q,.inr (.inr (.inr (.inr (.inl ⟨r,C w,B u,h⟩))))⟩
  | false=>exact ⟨q,.inr (.inr (.inr (.inr (.inr (.inl ⟨r,C w,B u,h⟩)))))⟩
 by_cases g:fO s k.verb=false
 ·have e:bz c s k=(s,[ni]):=by unfold bz;rw [if_pos g]
  rw [e];exact i ([ni]:List (List UInt8)).flatten (by decide) (by decide) (by decide) (by decide) (fun e=>by rw [e] at g;cases g)
 have H:k.verb=0∨k.verb=1∨k.verb=2∨k.verb=3∨k.verb=4∨k.verb=5∨k.verb=6∨k.verb=7∨k.verb=8∨k.verb=9∨k.verb=10:=by omega
 unfold bz;rw [if_neg g]
 rcases H with v | v | v | v | v | v | v | v | v | v | v
 ·simp only [v];exact i ([zm]:List (List UInt8)).flatten (by decide) (by decide) (by decide) (by decide) (by omega)
 ·simp only [v];exact i ([G8]:List (List UInt8)).flatten (by decide) (by decide) (by decide) (by decide) (by omega)
 ·simp only [v];exact ⟨by decide,.inr (.inr (.inr (.inl ⟨by decide,by rw [y,v];rfl,x (by omega) (by omega) (by omega) (by omega) (by omega)⟩)))⟩
 ·simp only [v];exact o ([jD]:List (List UInt8)).flatten (by decide) (by decide) (by omega) (by omega)
 ·simp only [v];exact o ([jD]:List (List UInt8)).flatten (by decide) (by decide) (by omega) (by omega)
 ·simp only [v]
  cases A:s.tx with
  | none=>
   rw [v] at g;unfold fO at g;rw [A] at g;exact absurd rfl g
  | some t=>exact ⟨by show 4≤([zl]:List (List UInt8)).flatten.length;decide,.inl ⟨by show dd ([zl]:List (List UInt8)).flatten=vH;decide,x (by omega) (by omega) (by omega) (by omega) (by omega)⟩⟩
 ·simp only [v];refine o ([[50,53,48,32]++cQ c++[13,10]]:List (List UInt8)).flatten ?_ (by rw [List.flatten_cons,List.append_assoc,List.append_assoc];exact pE _ _ _ _ _) (by omega) (by omega);rw [List.flatten_cons,List.length_append,List.length_append,List.length_append];simp only [List.length_cons,List.length_nil];omega
 ·simp only [v];refine o _ ?_ (by rw [List.flatten_cons,List.append_assoc,List.append_assoc];exact pE _ _ _ _ _) (by omega) (by omega);rw [List.flatten_cons,List.length_append,List.length_append,List.length_append];simp only [List.length_cons,List.length_nil];omega
 ·simp only [v]
  split
  ·exact i ([ni]:List (List UInt8)).flatten (by decide) (by decide) (by decide) (by decide) (by omega)
  ·split
   ·exact ⟨by show 4≤([Fe]:List (List UInt8)).flatten.length;decide,.inr (.inl ⟨by show dd ([Fe]:List (List UInt8)).flatten=vG;decide,by rw [m,v];rfl,x (by omega) (by omega) (by omega) (by omega) (by omega)⟩)⟩
   ·exact i ([G9]:List (List UInt8)).flatten (by decide) (by decide) (by decide) (by decide) (by omega)
 ·simp only [v]
  split
  ·exact i ([ni]:List (List UInt8)).flatten (by decide) (by decide) (by decide) (by decide) (by omega)
  ·split
   ·exact i ([uw]:List (List UInt8)).flatten (by decide) (by decide) (by decide) (by decide) (by omega)
   ·exact o ([jD]:List (List UInt8)).flatten (by decide) (by decide) (by omega) (by omega)
 ·simp only [v]
  cases A:s.tx with
  | none=>
   rw [v] at g;unfold fO at g;rw [A] at g;exact absurd rfl g
  | some t=>
   have J:bu l gZ=true:=by rw [z,v];rfl
   have I:=x (by omega) (by omega) (by omega) (by omega) (by omega);have p:nJ l ([[50,53,48,32,111,107,13,10]]:List (List UInt8)).flatten:=⟨by decide,.inr (.inr (.inl ⟨by decide,J,I⟩))⟩
   show nJ l ([b9 t.tos c.most (s.nets || s.known || dM c k.name) k.name]:List (List UInt8)).flatten;unfold b9
   split
   ·exact p
   ·split
    ·exact i ([[52,53,50,32,109,97,110,121,13,10]]:List (List UInt8)).flatten (by decide) (by decide) (by decide) (by decide) (by omega)
    ·split
     ·exact p
     ·exact i ([[53,53,48,32,110,111,13,10]]:List (List UInt8)).flatten (by decide) (by decide) (by decide) (by decide) (by omega)
theorem GD {c:bX} {s:bG} {S:aa} {a:List UInt8} {t:mK} {b:dW}:4≤(kz c s S a t b).2.2.2.flatten.length:=by
 unfold kz
 split
 ·show 4≤([zm]:List (List UInt8)).flatten.length;decide
 ·split
  ·show 4≤([uw]:List (List UInt8)).flatten.length;decide
  ·split
   ·rw [List.flatten_cons,List.length_append,List.length_append,List.length_append];simp only [List.length_cons,List.length_nil];omega
   ·show 4≤([CR]:List (List UInt8)).flatten.length;decide
theorem Hm {c:bX} {x:ca} {s:bG} {S:aa} {a l:List UInt8} (h:km x s) (e:x.inside=false):aO c s S a l false=((bz c s (bn l false)).1,S,a,(bz c s (bn l false)).2):=by
 unfold aO
 cases f:s.tx with
 | none=>rfl
 | some t=>
  simp only;have:=h.inside;rw [e] at this;unfold JG at this;rw [f,show (some t:Option mK).bind (·.body)=t.body from rfl] at this
  cases d:t.body with
  | none=>rfl
  | some b=>rw [d] at this;cases this
theorem xR {c:bX} {x:ca} {s:bG} {S:aa} {recs l:List UInt8} (h:km x s) (g:x.inside=true):(l≠[46]→(aO c s S recs l false).2.2.2.flatten=[])∧(l=[46]→4≤(aO c s S recs l false).2.2.2.flatten.length):=by
 obtain ⟨t,d,b,a⟩:∃t,s.tx=some t∧∃b,t.body=some b:=by
  have:=h.inside;rw [g] at this;unfold JG at this
  cases d:s.tx with
  | none=>rw [d] at this;cases this
  | some t=>
   rw [d,show (some t:Option mK).bind (·.body)=t.body from rfl] at this
   cases a:t.body with
   | none=>rw [a] at this;cases this
   | some b=>exact ⟨t,rfl,b,a⟩
 have f:aO c s S recs l false=dn c s S recs t b l false:=by unfold aO;rw [d];simp only;rw [a]
 rw [f];refine ⟨fun e=>?_,fun e=>?_⟩
 ·unfold dn;rw [if_neg e];rfl
 ·unfold dn;rw [if_pos e];exact GD
def KW:Value→Nat
 | .string b=>b.size
 | _=>0
theorem sx (a:List UInt8) (c:a.length≤4294967296) (W:World):Calls Tryz.prog 15 #[.string (bs a)] W fun e b=>e= .returned (.tuple #[.string (bs (gf a).1),.string (bs (gf a).2)])∧Below W.heap.size W b:=by
 refine (wO (bs a) W (by rw [aG];omega)).mono ?_;rintro e b ⟨rfl,m,rfl⟩;exact ⟨rfl,bA _ _ _⟩
theorem KJ {d:List UInt8} {z:List (List UInt8)} (hP:LH d z) (hl:(ax z).length≤1000000000) (J:d.length≤1048576) (w:World):
  Calls Tryz.prog 52 #[.string (bs (ax z))] w fun e w'=>e= .returned (.string (bs d))∧Below w.heap.size w w':=by
 have HP:=Lib.hid hP;have HL:=Lib.hid hl;have T:=Lib.hid J;clear hP hl J;go_enter Tryz.func52,Tryz.ntmps52;go_wp2_with fail
 go_loopw [0,3,4] (fun a b f wr=>∃(D P:List (List UInt8)),a= .string (bs (ax P))∧b= .string (bs (Lib.join D [13,10]))∧f= .bool (decide (D=[]))∧Hid (D++P=z)∧Hid ((ax P).length≤1000000000)∧Hid (Below w.heap.size w wr)) (fun a _ _ _=>KW a)
 case atStart=>exact ⟨[],z,rfl,rfl,rfl,Lib.hid rfl,HL,Lib.hid (Below.refl _ _)⟩
 case round=>
  obtain ⟨D,P,rfl,rfl,rfl,l,c,N⟩:=hrel
  cases P with
  | nil=>
   have HS:Hid (Calls Tryz.prog 15 #[.string (bs (ax []))] wr fun e w'=>e= .returned (.tuple #[.string (bs [46]),.string (bs [])])∧Below wr.heap.size wr w'):=Lib.hid (by
    have:=sx (ax []) (by have:=c.out;omega) wr;rw [Ll] at this
    exact this)
   have q1:((bs [46]).toList == [46])=true:=by rw [ByteArray.toList_eq,aI];rfl
   have q2:(bs []).toList.isEmpty=true:=by rw [ByteArray.toList_eq,aI];rfl
   go_wp2_with fail
   refine HS.out.mono ?_;rintro e w1 ⟨rfl,j⟩;have u:=Lib.hid (N.out.trans (j.mono N.out.size));clear j;go_wp2_with fail
   rw [show Lib.join D [13,10]=d by rw [←HP.out.all,←l.out,List.append_nil]]
   go_ret;exact ⟨rfl,u.out⟩
  | cons p P=>
   have L:tT p:=HP.out.no p (by rw [←l.out];simp);obtain ⟨q,I⟩:∃q,py p=q:=⟨_,rfl⟩;have g:=KI p P;have M:=sx (ax (p::P)) (by have:=c.out;omega) wr;rw [KY L,I] at M;obtain ⟨U,O⟩:∃U,ax (p::P)=U:=⟨_,rfl⟩;obtain ⟨V,Q⟩:∃V,ax P=V:=⟨_,rfl⟩;have c:=c;rw [O,Q,I] at g;rw [O] at M c;rw [Q] at M;have HS:=Lib.hid M
   have q1:((bs q).toList == [46])=false:=by
    rw [ByteArray.toList_eq,aI,beq_eq_false_iff_ne,←I];exact Ly p
   have q2:((bs q).toList == (bs U).toList)=false:=by
    rw [ByteArray.toList_eq,ByteArray.toList_eq,aI,aI,beq_eq_false_iff_ne];intro e;rw [e] at g;omega
   have HV:Hid (V.length < U.length∧V.length≤1000000000):=Lib.hid ⟨by omega,by have:=c.out;omega⟩
   have H:=Lib.hid g;have y:=Lib.hid (Lc p);rw [I] at y;have F:=Lib.hid Q;have a3:=aG q;rw [O];clear M L g I O Q;go_wp2_with fail
   refine HS.out.mono ?_;rintro e w1 ⟨rfl,j⟩;have u:=Lib.hid (N.out.trans (j.mono N.out.size));clear j;obtain ⟨X,o⟩:∃X,Lib.join D [13,10]=X:=⟨_,rfl⟩
   have hX:X.length≤1048576:=by
    have E:=KQ D (p::P);rw [l.out,HP.out.all,o] at E;exact Nat.le_trans E T.out
   have a2:=aG X;have x:=Lib.hid o
   have a0:p.length≤1000000000:=by
    have E:=c.out
    rcases y.out with ⟨r,A,n⟩ | ⟨A,n⟩
    ·have h2:=HV.out;rw [←H.out,A,n] at E;simp only [List.length_cons] at E;omega
    ·rw [←H.out,A] at E;omega
   rw [o]
   have B:∀Z:ByteArray,Z=(if D=[] then bs p else bs X++⟨#[13,10]⟩++bs p)→Z=bs (Lib.join (D++[p]) [13,10]):=fun Z e=>by
    rw [e,Le,x.out]
    split
    ·rfl
    ·rw [show (⟨#[13,10]⟩:ByteArray)=bs [13,10] from rfl,cE,cE]
   have a1:=Lib.hid B;have W:Hid (D++[p]++P=z):=Lib.hid (by rw [←l.out];simp)
   have k:∀Z:ByteArray,Z=(if D=[] then bs p else bs X++⟨#[13,10]⟩++bs p)→(∃(S P':List (List UInt8)),Value.string (bs V)= .string (bs (ax P'))∧Value.string Z= .string (bs (Lib.join S [13,10]))∧Value.bool false= .bool (decide (S=[]))∧Hid (S++P'=z)∧Hid ((ax P').length≤1000000000)∧Hid (Below w.heap.size w w1))∧KW (.string (bs V)) < KW (.string (bs U)):=fun Z e=>by
    refine ⟨⟨D++[p],P,by rw [F.out],by rw [B Z e],by simp,W,Lib.hid (by rw [F.out];exact HV.out.2),u⟩,?_⟩
    show (bs V).size < (bs U).size;rw [aG,aG];exact HV.out.1
   have i:=Lib.hid k;clear B k o
   have K:(bs (46::p)).extract 1 (p.length+1)=bs p:=by
    rw [fW,List.take_of_length_le (by simp)];rfl
   have t:∀Y:ByteArray,bs []++Y=Y:=fun Y=>by rw [←Eb Y,cE];rfl
   have m:=Lib.hid K;have v:=Lib.hid t;clear K t
   rcases y.out with ⟨r,A,n⟩ | ⟨A,n⟩
   ·subst n A
    by_cases s:D=[]
    ·subst s;have o:X=[]:=x.out.symm;subst o;go_wp2_with fail
     exact i.out _ (by rw [if_pos trivial,m.out,v.out])
    ·have C:decide (D=[])=false:=decide_eq_false s;rw [C];go_wp2_with fail
     exact i.out _ (by rw [if_neg s,m.out])
   ·subst A
    have R:∀a r (h:0 < (bs (a::r)).size),q=a::r→((((bs (a::r))[0]).toNat:Int) == 46)=false:=fun a r h e=>by
     rw [Gt,beq_eq_false_iff_ne];intro e3;rw [e] at n
     exact n (by
      show some a=some 46
      have e4:a.toNat=46:=by
       have:((a.toNat:Nat):Int)=46:=e3;omega
      exact congrArg some (UInt8.toNat_inj.1 e4))
    have G:=Lib.hid R;clear R n
    by_cases s:D=[]
    ·subst s;have o:X=[]:=x.out.symm;subst o
     cases q with
     | nil=>
      go_wp2_with fail
      exact i.out _ (by rw [if_pos trivial,v.out])
     | cons a r=>
      have R:=G.out a r (by rw [aG];simp) rfl;go_wp2_with fail
      exact i.out _ (by rw [if_pos trivial,v.out])
    ·have C:decide (D=[])=false:=decide_eq_false s;rw [C]
     cases q with
     | nil=>
      go_wp2_with fail
      exact i.out _ (by rw [if_neg s])
     | cons a r=>
      have R:=G.out a r (by rw [aG];simp) rfl;have a4:r.length≤1000000000:=Nat.le_trans (Nat.le_succ _) a0;go_wp2_with fail
      exact i.out _ (by rw [if_neg s])
end Go.Proofs.YtofpegbpgkkgkaaGreatDoor
