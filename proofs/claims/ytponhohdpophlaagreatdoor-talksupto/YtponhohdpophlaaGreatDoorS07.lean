import Derived.Test.YtponhohdpophlaaGreatDoorRows
import Derived.LaidByTextLater
import Derived.SevenTiedAt
import Derived.Test.YtponhohdpophlaaGreatDoorS06
import Derived.ProofKit
import Derived.OpenShut
import Derived.LaidMore
import Derived.Lay
import Derived.HandedShaped
import Derived.Shelf.Vars
namespace Go.Proofs.YtponhohdpophlaaGreatDoor
set_option maxHeartbeats 8000000
set_option maxRecDepth 1000000
open Go.Lib renaming cell_of_heap->Q3
open Go.Proofs.Tryz renaming prog->Ys
open Go.Value renaming int->I,slice->L,string->T
open _root_.List renaming length_append->RI,length_cons->RQ,mem_cons->Rf,nodup_nil->aaf,nodup_cons->aag
open _root_.Nat renaming le_refl->QR,zero_add->TD,lt_or_ge->Tp
open _root_.Option renaming none->N,some->S
open Go.Proofs.Tryz
open Go
def zn:List (String×DataW Unit):=[("unicode/utf8.acceptRanges",Rows.laid_unicode_utf8_acceptRanges),("internal/strconv.uint64pow10",Rows.laid_internal_strconv_uint64pow10),("math/bits.deBruijn32tab",Rows.laid_math_bits_deBruijn32tab),("math/bits.deBruijn64tab",Rows.laid_math_bits_deBruijn64tab),("unicode.asciiFold",Rows.laid_unicode_asciiFold),("unicode.caseOrbit",Rows.laid_unicode_caseOrbit),("strconv.ErrSyntax",Rows.laid_strconv_ErrSyntax),("strconv.ErrRange",Rows.laid_strconv_ErrRange)]
def Zf:List LaidKind:=[.data,.data,.data,.data,.data,.data,.sentinel,.sentinel]
theorem ZS:prog.worded (varsWordLater true)=true:=by kernel_rfl
theorem Zo:prog.worded (varsWordLater !true)=false:=by kernel_rfl
theorem Zk:prog.worded rootWordLater=true:=by kernel_rfl
theorem ZP:zn.map (λx=>prog.kindOfLater x.1)=Zf.map some:=by kernel_rfl
theorem ZO:(prog.funcNamed "gosem.cut.vars").isSome=true:=by kernel_rfl
theorem ZQ:varsNamedLaterB Ys (varsId Ys) zn=true:=by kernel_rfl
theorem ZR:(zn.all λx=>x.2.handleName?.isNone)=true:=by kernel_rfl
theorem ZN(b:Os)(a:Tape):varsDone Ys 400 (varsId Ys) b a=true:=by kernel_rfl
theorem ZK(b:Os)(a:Tape):(DataW.laidRun Ys (varsWorld Ys 400 (varsId Ys) b a).memory 8 (zn.map (·.1))).map (·.1)=some zn:=by kernel_rfl
def Ze(cur last:Nat)(seen:List Nat):List MemPlace->Bool
 | []=>true
 | .map _::_=>false
 | .cell b o::r=>if b=cur then decide (last < o) && Ze cur o seen r else !seen.contains b && Ze b o (cur::seen) r
theorem Zc:∀(l:List MemPlace) (d f:Nat) (c:List Nat),Ze d f c l=true->(∀p∈l,p.block ∉ c\/p.block=d)/\(∀p∈l,p.block=d->∃o,p= .cell d o/\f < o)/\l.Nodup
 | [],_,_,_,_=>⟨λ_ h=>(by cases h),λ_ h=>(by cases h),aaf⟩
 | .map _::_,_,_,_,h=>by simp [Ze] at h
 | .cell b o::r,d,f,c,h=>by
  unfold Ze at h
  split at h
  .rename_i e
   subst e;simp only [Bool.and_eq_true,decide_eq_true_eq] at h;obtain ⟨j,k,n⟩:=Zc r b o c h.2;refine ⟨λp a=>?_,λp a m=>?_,aag.2 ⟨λq=>?_,n⟩⟩
   .rcases Rf.1 a with rfl | a
    .exact .inr rfl
    exact j p a
   .rcases Rf.1 a with rfl | a
    .exact ⟨o,rfl,h.1⟩
    obtain ⟨s,e,v⟩:=k p a m;exact ⟨s,e,by omega⟩
   obtain ⟨s,e,v⟩:=k _ q rfl;injection e with _ e;omega
  rename_i e
  simp only [Bool.and_eq_true,Bool.not_eq_true',List.contains_eq_mem,decide_eq_false_iff_not] at h;obtain ⟨j,k,n⟩:=Zc r b o (d::c) h.2
  have i:∀p∈r,p.block≠d:=λp a u=>by
   rcases j p a with g | g
   .exact g (by rw [u];exact List.mem_cons_self ..)
   exact e (g.symm.trans u)
  refine ⟨λp a=>?_,λp a m=>?_,aag.2 ⟨λq=>?_,n⟩⟩
  .rcases Rf.1 a with rfl | a
   .exact .inl h.1
   rcases j p a with g | g
   .exact .inl λw=>g (List.mem_cons_of_mem _ w)
   exact .inl (by rw [g];exact h.1)
  .rcases Rf.1 a with rfl | a
   .exact absurd m e
   exact absurd m (i p a)
  obtain ⟨s,t,v⟩:=k _ q rfl;injection t with _ t;omega
def aae:List MemPlace->Bool
 | .cell b o::r=>Ze b o [] r
 | _=>false
theorem Zi{l:List MemPlace}(h:aae l=true):l.Nodup:=by
 cases l with
 | nil=>exact aaf
 | cons p r=>
  cases p with
  | map _=>cases h
  | cell b o=>
   obtain ⟨_,a,c⟩:=Zc r b o [] h;refine aag.2 ⟨λd=>?_,c⟩;obtain ⟨g,e,f⟩:=a _ d rfl;injection e with _ e;omega
theorem ZL(b:Os)(a:Tape):(DataW.laidRun Ys (varsWorld Ys 400 (varsId Ys) b a).memory 8 (zn.map (·.1))).map (λx=>aae x.2)=some true:=by kernel_rfl
theorem ZM(b:Os)(a:Tape):(DataW.laidRun Ys (varsWorld Ys 400 (varsId Ys) b a).memory 8 (zn.map (·.1))).map (λx=>laidRowsB Ys (varsWorld Ys 400 (varsId Ys) b a).memory x.2)=some true:=by kernel_rfl
theorem zl:Tryz.pinned.checked.prog.pinnedFits "unicode/utf8.first"=true:=by kernel_rfl
theorem xW:Tryz.pinned.checked.prog.pinnedFits "unicode.CaseRanges"=true:=by kernel_rfl
theorem Zg:Tryz.pinned.checked.prog.headLifts.contains "ownunsafe"=false:=by kernel_rfl
theorem Zh:Tryz.pinned.checked.prog.listedFits [("unicode/utf8.first",Rows.laid_unicode_utf8_first),("unicode/utf8.acceptRanges",Rows.laid_unicode_utf8_acceptRanges),("unicode.CaseRanges",Rows.laid_unicode_CaseRanges),("internal/strconv.uint64pow10",Rows.laid_internal_strconv_uint64pow10),("math/bits.deBruijn32tab",Rows.laid_math_bits_deBruijn32tab),("math/bits.deBruijn64tab",Rows.laid_math_bits_deBruijn64tab),("unicode.asciiFold",Rows.laid_unicode_asciiFold),("unicode.caseOrbit",Rows.laid_unicode_caseOrbit),("strconv.ErrSyntax",Rows.laid_strconv_ErrSyntax),("strconv.ErrRange",Rows.laid_strconv_ErrRange)]=true:=by
 unfold Program.listedFits;rw [Zg];kernel_rfl
theorem ZT:prog.laidByTextLater zn Zf true:=
 Program.laidByTextLater_by_run 400 8 ZS Zo Zk ZP ZO ZQ ZN ZK (λd a=>by
  have b:=ZL d a;have c:=ZM d a
  cases h:(DataW.laidRun Ys (varsWorld Ys 400 (varsId Ys) d a).memory 8 (zn.map (·.1))) with
  | none=>rw [h] at b;cases b
  | some x=>
   rw [h] at b c;simp only [Option.map_some,Option.some.injEq] at b c ⊢
   rw [decide_eq_true (Zi b),c];rfl) ZR
theorem Zl:Rows.talksRow.laidByTextAt .later Tryz.pinned [.pinned,.data,.pinned,.data,.data,.data,.data,.data,.sentinel,.sentinel] true:=
 OpenClaim.laidByTextAt_pinned rfl rfl ZT rfl rfl rfl rfl (λy a _e=>by
  simp only [Rows.talksRow,List.zip_cons_cons,List.zip_nil_right,Rf,List.mem_nil_iff,or_false] at a
  rcases a with rfl | rfl | rfl | rfl | rfl | rfl | rfl | rfl | rfl | rfl
  .exact ⟨zl,by kernel_rfl⟩
  .cases _e
  .exact ⟨xW,by kernel_rfl⟩
  .cases _e
  .cases _e
  .cases _e
  .cases _e
  .cases _e
  .cases _e
  cases _e) Zh
theorem Zm:Rows.allRow.laidByTextAt .later Tryz.pinned [.pinned,.data,.pinned,.data,.data,.data,.data,.data,.sentinel,.sentinel] true:=
 OpenClaim.laidByTextAt_pinned rfl rfl ZT rfl rfl rfl rfl (λy a _e=>by
  simp only [Rows.allRow,List.zip_cons_cons,List.zip_nil_right,Rf,List.mem_nil_iff,or_false] at a
  rcases a with rfl | rfl | rfl | rfl | rfl | rfl | rfl | rfl | rfl | rfl
  .exact ⟨zl,by kernel_rfl⟩
  .cases _e
  .exact ⟨xW,by kernel_rfl⟩
  .cases _e
  .cases _e
  .cases _e
  .cases _e
  .cases _e
  .cases _e
  cases _e) Zh
theorem Zd:Rows.talksUptoRow.laidByTextAt .later Tryz.pinned [.pinned,.data,.pinned,.data,.data,.data,.data,.data,.sentinel,.sentinel] true:=
 OpenClaim.laidByTextAt_pinned rfl rfl ZT rfl rfl rfl rfl (λy a _e=>by
  simp only [Rows.talksUptoRow,List.zip_cons_cons,List.zip_nil_right,Rf,List.mem_nil_iff,or_false] at a
  rcases a with rfl | rfl | rfl | rfl | rfl | rfl | rfl | rfl | rfl | rfl
  .exact ⟨zl,by kernel_rfl⟩
  .cases _e
  .exact ⟨xW,by kernel_rfl⟩
  .cases _e
  .cases _e
  .cases _e
  .cases _e
  .cases _e
  .cases _e
  cases _e) Zh
theorem Zj:Rows.allUptoRow.laidByTextAt .later Tryz.pinned [.pinned,.data,.pinned,.data,.data,.data,.data,.data,.sentinel,.sentinel] true:=
 OpenClaim.laidByTextAt_pinned rfl rfl ZT rfl rfl rfl rfl (λy a _e=>by
  simp only [Rows.allUptoRow,List.zip_cons_cons,List.zip_nil_right,Rf,List.mem_nil_iff,or_false] at a
  rcases a with rfl | rfl | rfl | rfl | rfl | rfl | rfl | rfl | rfl | rfl
  .exact ⟨zl,by kernel_rfl⟩
  .cases _e
  .exact ⟨xW,by kernel_rfl⟩
  .cases _e
  .cases _e
  .cases _e
  .cases _e
  .cases _e
  .cases _e
  cases _e) Zh
open Go.RowKit
def jU(n:Nat):QF:=if n=0 then [] else UInt8.ofNat (48+n % 10)::jU (n / 10)
 termination_by n
 decreasing_by omega
theorem tz{n:Nat}(h:0 < n):jU n=UInt8.ofNat (48+n % 10)::jU (n / 10):=by
 rw [jU,if_neg (by omega)]
theorem nk:jU 0=[]:=by rw [jU,if_pos rfl]
theorem tv:∀(d n:Nat),n < 10 ^ d->(jU n).length<=d
 | 0,n,h=>by
  have:n=0:=by simpa using h
  subst this;rw [nk];exact QR _
 | d+1,n,h=>by
  rcases Nat.eq_zero_or_pos n with rfl | a
  .rw [nk];simp
  rw [tz a,RQ];have:=tv d (n / 10) (by rw [Nat.pow_succ] at h;omega);omega
def Fo(n:Nat):QF:=[109,97,114,107]++jU n
theorem MY(a:Nat)(w:QI)(q:a<=maxLen):Calls Ys 194 #[I .i64 a] w λe m=>e= .returned (T (bs (Fo a)))/\Below w.heap.size w m:=by
 have r:Hid ((Fo a).length<=23):=K (by
  have:=tv 19 a (by unfold maxLen at q;omega);unfold Fo;rw [RI];show 4+_<=23
  omega)
 unfold maxLen at q;go_enter func194,ntmps194;go_wp2_with fail
 go_loopw [0,3] (λl v m=>∃(k:Nat) (b:QF),l=I .i64 k/\v=T (bs b)/\k<=a/\b.length<=24/\Hid (b++jU k=Fo a)/\Hid (Below w.heap.size w m)) (λl _ _=>(intOf l).toNat)
 case atStart=>exact ⟨a,[109,97,114,107],rfl,rfl,QR _,by simp,K rfl,K (Below.refl _ _)⟩
 case round=>
  obtain ⟨k,b,rfl,rfl,A,y,o,f⟩:=hrel;have t:=aj b
  by_cases h:0 < k
  .have d:(k:Int) % 10=((k % 10:Nat):Int):=by omega
   have c:(convert 100 9 (L (S ⟨wr.heap.size,0,N⟩) 1 1)).run Ys (wr.alloc (.cells #[I .u8 (48+(k:Int) % 10)] 5))= .ok (T (bs [UInt8.ofNat (48+k % 10)])) (wr.alloc (.cells #[I .u8 (48+(k:Int) % 10)] 5)):=by
    refine ib _ wr.heap.size 1 1 [UInt8.ofNat (48+k % 10)] rfl (λi z=>?_);obtain rfl:i=0:=by omega
    rw [show (⟨wr.heap.size,0+0,N⟩:Addr)=⟨wr.heap.size,0,N⟩ from rfl,World.cell?_alloc_mark];simp;omega
   have j:(bs [UInt8.ofNat (48+k % 10)]).size=1:=aj _;have n:Hid (jU k=UInt8.ofNat (48+k % 10)::jU (k / 10)):=K (tz h);obtain ⟨D,p⟩:=QE (UInt8.ofNat (48+k % 10));rw [p] at c j n;clear d p;go_wp2_with fail
   have e:=o.out;rw [n.out] at e;have u:=r.out;rw [<-e,RI,RQ] at u;have s:=f.out.size;refine ⟨⟨k / 10,b++[D],congrArg (I .i64) (by omega),by rw [aQ],by omega,by rw [RI];simp;omega,K (by rw [<-e];simp),K (f.out.alloc s _)⟩,?_⟩
   simp only [intOf];omega
  have g:Hid (k=0):=K (by omega);go_wp2_with fail
  go_ret;have e:=o.out;rw [g.out,nk,List.append_nil] at e;exact ⟨congrArg (λx=>Ending.returned (T (bs x))) e,f.out⟩
theorem kL.below{c:bF}{B:Nat}{w n:QI}(h:kL c B w)(d:Below w.heap.size w n):kL c B n:=by
 obtain ⟨D,a,U,V,⟨j,k,l,m⟩,f⟩:=h
 have g:∀{b:Nat} {o:Obj},w.heap[b]? =S o->b < w.heap.size:=λe=>by
  rcases Tp _ w.heap.size with i | i
  .exact i
  rw [Array.getElem?_eq_none i] at e;cases e
 exact ⟨D,a,U,V,⟨(d.block _ (g j)).trans j,(d.block _ (g k)).trans k,(d.block _ (g l)).trans l,(d.block _ (g m)).trans m⟩,f⟩
theorem kL.size{c:bF}{B:Nat}{w:QI}(h:kL c B w):B+7<=w.heap.size:=by
 obtain ⟨D,a,U,V,⟨_,_,_,d⟩,_⟩:=h
 rcases Tp (B+6) w.heap.size with b | b
 .omega
 rw [Array.getElem?_eq_none b] at d;cases d
theorem JB{c:bF}{B:Nat}{w s:QI}{o p q r:QJ}(d:dD s c o p q r)(h:kL c B w):dD w c (L (S ⟨B+1+1+1,0,N⟩) c.xf.length (c.xf.length+8)) (L (S ⟨B+1+1+1+1,0,N⟩) c.xe.length (c.xe.length+8)) (L (S ⟨B+1+1+1+1+1,0,N⟩) c.x9.length (c.x9.length+8)) (L (S ⟨B+1+1+1+1+1+1,0,N⟩) c.waits.length (c.waits.length+8)):=by
 obtain ⟨D,a,U,V,⟨k,l,m,n⟩,e,f,g,i⟩:=h;refine ⟨⟨d.1.1,.inr ⟨_,_,_,rfl,by omega,λj b=>?_⟩⟩,⟨d.2.1.1,.inr ⟨_,_,_,rfl,by omega,λj b=>?_⟩⟩,⟨d.2.2.1.1,.inr ⟨_,_,_,rfl,by omega,λj b=>?_⟩⟩,⟨d.2.2.2.1,.inr ⟨_,_,_,rfl,by omega,λj b=>?_⟩⟩⟩
 .rw [TD];exact (Q3 k j).trans (e.2.1 j b)
 .rw [TD];exact (Q3 l j).trans (f.2.1 j b)
 .rw [TD];exact (Q3 m j).trans (g.2.1 j b)
 rw [TD];exact (Q3 n j).trans (i.2.1 j b)
open Go.ChangeShapes Go.WideShapes Go.ChangeAt Go.RowKit
theorem own:ownKnob prog.godebug=N:=by kernel_rfl
theorem tQ{w:QI}(h:w.ShapedOpen Ys):∃m,w.cell? ⟨0,0,N⟩=S (I .i64 m):=
 cell_of_shapedOpen_int (zero:=#[I .i64 0]) (t:=3) h (of_decide_eq_true (by kernel_rfl)) (by kernel_rfl) rfl (by kernel_rfl) (by kernel_rfl) underlying3
end Go.Proofs.YtponhohdpophlaaGreatDoor
